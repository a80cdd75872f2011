package matching

import (
	"testing"

	"precept/api"
	"precept/cells"
	"precept/ruleset"
)

// facts: one behind the other, in the order of their cells, with their times.
func facts(text string, times ...int) []cells.Fact {
	var list []cells.Fact
	for _, time := range times {
		cell, value, _ := cells.ReadFact(text[:3])
		list = append(list, cells.NewFact(cell, value, time))
		text = text[3:]
	}
	return list
}

func rules(t *testing.T, text string) []ruleset.Rule {
	t.Helper()
	list, e, _ := ruleset.Read(text)
	if e != api.OK {
		t.Fatalf("Read(%q): %d", text, e)
	}
	return list
}

func TestOpenIsByRuleAndWriting(t *testing.T) {
	list := Open(rules(t, "1:a__,b__>.;9:b__>.;5:0=0>.;"), facts("a11a20b05b30", 4, 2, 9, 1), &Memory{})
	if got := Write(list); got != "0a11b05;0a11b30;0a20b05;0a20b30;1b05;1b30;2;" {
		t.Errorf("Open = %q", got)
	}
	for i, want := range []Instantiation{
		{Weight: 1, Latest: 9, Count: 2}, {Weight: 1, Latest: 4, Count: 2}, {Weight: 1, Latest: 9, Count: 2},
		{Weight: 1, Latest: 2, Count: 2}, {Weight: 9, Latest: 9, Count: 1}, {Weight: 9, Latest: 1, Count: 1},
		{Weight: 5, Latest: 0, Count: 0},
	} {
		if n := list[i]; n.Weight != want.Weight || n.Latest != want.Latest || n.Count != want.Count {
			t.Errorf("%d: weight %d, latest %d, count %d, want %v", i, n.Weight, n.Latest, n.Count, want)
		}
	}
}

func TestFirstIsTheFirstInTheOrder(t *testing.T) {
	for _, text := range []string{
		"5:a__>.;", "5:a__,b__>.;", "1:a__>.;9:b__>.;", "9:a__>.;1:b__>.;", "5:0=0>.;5:b__>.;", "5:a__,a__>.;5:a__>.;",
		"5:b__>.;5:a__>.;", "5:0=0>.;5:1=1>.;",
	} {
		list := rules(t, text)
		seen := facts("a11a20b05b30", 4, 2, 4, 1)
		var memory Memory
		for left := Ordered(Open(list, seen, &memory)); len(left) > 0; left = left[1:] {
			first, found := First(list, seen, &memory)
			if !found || first != left[0] {
				t.Errorf("%s: First = %v, %v, want %v", text, first, found, left[0])
			}
			memory.Add(first)
			if got, want := Write(Ordered(Open(list, seen, &memory))), Write(left[1:]); got != want {
				t.Errorf("%s: open is %q, want %q", text, got, want)
			}
		}
		if first, found := First(list, seen, &memory); found || first != (Instantiation{}) {
			t.Errorf("%s: First = %v, %v, want none", text, first, found)
		}
	}
}

func TestMemoryIsOfRuleAndFactsAndTimes(t *testing.T) {
	one := func(rule int, text string, times ...int) Instantiation {
		n := Instantiation{Rule: rule}
		for i, fact := range facts(text, times...) {
			n.Facts[i] = fact
			n.Count++
			n.Latest = max(n.Latest, fact.Time)
		}
		return n
	}
	var m Memory
	list := []Instantiation{
		one(0, ""), one(8, ""), one(1, "a00", 1), one(1, "a10", 1), one(2, "a00b00", 1, 2), one(2, "a10b00", 3, 2),
		one(2, "a00b10", 1, 4), one(8, "a99b99c99", 1, 2, 3), one(8, "a99b99c89", 1, 2, 4), one(7, "a99b99c99", 1, 2, 3),
	}
	for i := range list {
		for k := range list {
			if got := m.Has(list[k]); got != (k < i) {
				t.Errorf("behind %d were added, Has of %d = %v", i, k, got)
			}
		}
		m.Add(list[i])
	}
	for _, other := range []Instantiation{
		one(1, ""), one(1, "a00", 5), one(1, "a01", 6), one(2, "a00b00", 7, 2), one(2, "a00b00", 1, 7), one(0, "a11", 1),
		one(8, "a99b99c99", 1, 5, 3), one(6, "a99b99c99", 1, 2, 3),
	} {
		if m.Has(other) {
			t.Errorf("Has(%v), which was not added", other)
		}
	}
	m.Add(one(1, "a00", 5))
	if m.Has(one(1, "a00", 1)) || !m.Has(one(1, "a00", 5)) {
		t.Error("what was written anew is not told from what was there")
	}
}

func TestNoPlaceForWhatIsNone(t *testing.T) {
	var m Memory
	for _, n := range []Instantiation{
		{Rule: -1}, {Rule: api.MaxRules}, {Rule: 1 << 62}, {Rule: -1 << 63},
		{Count: 1, Facts: [api.MaxPats]cells.Fact{{Digit: -1}}}, {Count: 1, Facts: [api.MaxPats]cells.Fact{{Digit: 1000}}},
		{Count: 1 << 62, Facts: [api.MaxPats]cells.Fact{{Digit: 10}}},
	} {
		m.Add(n)
		if m.Has(n) {
			t.Errorf("Has(%v)", n)
		}
	}
	for i := range m.marks {
		if m.marks[i].made {
			t.Errorf("a mark at %d", i)
		}
	}
}

func TestWorkOut(t *testing.T) {
	list := rules(t, "5:axy>+bx^y~,-cy,.,+dyx;5:axy>.;5:axy>+bxy,+b0x~,.;5:axy>+bxy,+b0y^,.;5:axy>-cx~;5:axy>-cy^;")
	open := Open(list, facts("a09a25", 1, 2), &Memory{})
	for i, want := range []struct {
		text      string
		halts, ok bool
	}{
		{"b18 c9. d90 ", true, true}, {"b34 c5. d52 ", true, true}, {"", true, true}, {"", true, true},
		{"", false, false}, {"b25 b01 ", true, true}, {"", false, false}, {"b25 b06 ", true, true},
		{"", false, false}, {"c1. ", false, true}, {"", false, false}, {"c6. ", false, true},
	} {
		n := open[i]
		outcome, ok := WorkOut(list, n)
		text := ""
		for _, effect := range outcome.Effects {
			fact := cells.NewFact(effect.Cell, effect.State.Value, 0).Text()
			if !effect.State.Filled {
				fact = fact[:2] + "."
			}
			text += fact + " "
		}
		if text != want.text || outcome.Halts != want.halts || ok != want.ok {
			t.Errorf("WorkOut of %s = %q, %v, %v, want %v", Write([]Instantiation{n}), text, outcome.Halts, ok, want)
		}
	}
	for _, rule := range []int{-1, len(list), 1 << 62, -1 << 63} {
		if outcome, ok := WorkOut(list, Instantiation{Rule: rule}); ok || outcome.Halts || outcome.Effects != nil {
			t.Errorf("WorkOut of rule %d = %v, %v", rule, outcome, ok)
		}
	}
}

func TestOrderedKeepsEqualsAsTheyAre(t *testing.T) {
	for count := 0; count < 40; count++ {
		var list []Instantiation
		for i := 0; i < count; i++ {
			list = append(list, Instantiation{Rule: i, Weight: i % 3, Latest: i * 7 % 5})
		}
		ordered := Ordered(list)
		if len(ordered) != count {
			t.Fatalf("%d of %d are left", len(ordered), count)
		}
		for i := 1; i < count; i++ {
			a, b := ordered[i-1], ordered[i]
			if a.Weight < b.Weight || a.Weight == b.Weight && (a.Latest < b.Latest || a.Latest == b.Latest && a.Rule > b.Rule) {
				t.Errorf("of %d, %v comes ahead of %v", count, a, b)
			}
		}
		for i := range list {
			if list[i].Rule != i {
				t.Fatalf("the list that was handed in is changed")
			}
		}
	}
}

func TestNoMoreFactsThanMayBe(t *testing.T) {
	pattern := ruleset.Condition{Kind: ruleset.Pattern}
	conditions := []ruleset.Condition{pattern, pattern, pattern, pattern}
	one := facts("a11", 1)
	if got := Write(Open([]ruleset.Rule{{Conditions: conditions[:3]}}, one, &Memory{})); got != "0a11a11a11;" {
		t.Errorf("three patterns: %q", got)
	}
	if got := Write(Open([]ruleset.Rule{{Conditions: conditions}}, one, &Memory{})); got != "" {
		t.Errorf("four patterns: %q", got)
	}
}

func TestVariablesThatAreNone(t *testing.T) {
	for _, value := range []int{-1, ruleset.Variables, 1 << 62, -1 << 63} {
		term := ruleset.Term{Kind: ruleset.Variable, Value: value}
		if _, ok := (digits{}).with(term, 5); ok {
			t.Errorf("variable %d goes with a digit", value)
		}
		test := ruleset.Condition{Kind: ruleset.Test, Sign: '<', First: term, Second: term}
		if (digits{}).holds(test) {
			t.Errorf("variable %d is less than itself", value)
		}
	}
}
