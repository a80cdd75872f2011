package matching

import (
	"testing"

	"precept/api"
	"precept/cells"
	"precept/ruleset"
)

// facts: one behind the other, in the order of their cells, with their times.
func facts(text string, times ...int) []cells.Fact {
	var list []cells.Fact
	for _, time := range times {
		cell, value, _ := cells.ReadFact(text[:3])
		list = append(list, cells.NewFact(cell, value, time))
		text = text[3:]
	}
	return list
}

func rules(t *testing.T, text string) []ruleset.Rule {
	t.Helper()
	list, e, _ := ruleset.Read(text)
	if e != api.OK {
		t.Fatalf("Read(%q): %d", text, e)
	}
	return list
}

func TestFindIsByRuleAndWriting(t *testing.T) {
	list := Find(rules(t, "1:a__,b__>.;9:b__>.;5:0=0>.;"), facts("a11a20b05b30", 4, 2, 9, 1))
	if got := Write(list); got != "0a11b05;0a11b30;0a20b05;0a20b30;1b05;1b30;2;" {
		t.Errorf("Find = %q", got)
	}
	for i, want := range []Instantiation{
		{Weight: 1, Latest: 9, Count: 2}, {Weight: 1, Latest: 4, Count: 2}, {Weight: 1, Latest: 9, Count: 2},
		{Weight: 1, Latest: 2, Count: 2}, {Weight: 9, Latest: 9, Count: 1}, {Weight: 9, Latest: 1, Count: 1},
		{Weight: 5, Latest: 0, Count: 0},
	} {
		if n := list[i]; n.Weight != want.Weight || n.Latest != want.Latest || n.Count != want.Count {
			t.Errorf("%d: weight %d, latest %d, count %d, want %v", i, n.Weight, n.Latest, n.Count, want)
		}
	}
}

func TestOrderedKeepsEqualsAsTheyAre(t *testing.T) {
	for count := 0; count < 40; count++ {
		var list []Instantiation
		for i := 0; i < count; i++ {
			list = append(list, Instantiation{Rule: i, Weight: i % 3, Latest: i * 7 % 5})
		}
		ordered := Ordered(list)
		if len(ordered) != count {
			t.Fatalf("%d of %d are left", len(ordered), count)
		}
		for i := 1; i < count; i++ {
			a, b := ordered[i-1], ordered[i]
			if a.Weight < b.Weight || a.Weight == b.Weight && (a.Latest < b.Latest || a.Latest == b.Latest && a.Rule > b.Rule) {
				t.Errorf("of %d, %v comes ahead of %v", count, a, b)
			}
		}
		for i := range list {
			if list[i].Rule != i {
				t.Fatalf("the list that was handed in is changed")
			}
		}
	}
}

func TestNoMoreFactsThanMayBe(t *testing.T) {
	pattern := ruleset.Condition{Kind: ruleset.Pattern}
	conditions := []ruleset.Condition{pattern, pattern, pattern, pattern}
	one := facts("a11", 1)
	if got := Write(Find([]ruleset.Rule{{Conditions: conditions[:3]}}, one)); got != "0a11a11a11;" {
		t.Errorf("three patterns: %q", got)
	}
	if got := Write(Find([]ruleset.Rule{{Conditions: conditions}}, one)); got != "" {
		t.Errorf("four patterns: %q", got)
	}
}

func TestVariablesThatAreNone(t *testing.T) {
	for _, value := range []int{-1, ruleset.Variables, 1 << 62, -1 << 63} {
		term := ruleset.Term{Kind: ruleset.Variable, Value: value}
		if _, ok := (digits{}).with(term, 5); ok {
			t.Errorf("variable %d goes with a digit", value)
		}
		test := ruleset.Condition{Kind: ruleset.Test, Sign: '<', First: term, Second: term}
		if (digits{}).holds(test) {
			t.Errorf("variable %d is less than itself", value)
		}
	}
}
