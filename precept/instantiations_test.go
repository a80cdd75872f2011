package precept_test

import (
	"cmp"
	"fmt"
	"slices"
	"strings"
	"testing"

	"precept/api"
	"precept/precept"
)

// found: an instantiation, what it is ordered by, the times of its facts, the
// digits of its variables, and its actions. Without facts its latest time is -1.
type found struct {
	weight, latest, rule int
	text, times          string
	variables            map[byte]byte
	actions              []string
}

// instantiations: those of the rules over some facts, in their order, as the
// document's words say: each way to choose the facts is tried, and asked of all
// conditions.
func instantiations(rules string, facts []dated) []found {
	var all []found
	for number, rule := range strings.Split(strings.TrimSuffix(rules, ";"), ";") {
		if rule == "" {
			continue
		}
		left, right, _ := strings.Cut(rule[2:], ">")
		conditions := strings.Split(left, ",")
		for _, chosen := range choices(conditions, facts) {
			f := found{weight: int(rule[0] - '0'), latest: -1, rule: number, text: string('0' + byte(number))}
			for _, d := range chosen {
				f.text += d.fact
				f.times += fmt.Sprint("@", d.time)
				f.latest = max(f.latest, d.time)
			}
			f.actions = strings.Split(right, ",")
			f.variables = map[byte]byte{}
			if fits(conditions, chosen, facts, f.variables) {
				all = append(all, f)
			}
		}
	}
	slices.SortFunc(all, func(a, b found) int {
		return cmp.Or(b.weight-a.weight, b.latest-a.latest, a.rule-b.rule, strings.Compare(a.text, b.text))
	})
	return all
}

// written: as Matches tells them.
func written(all []found) string {
	text := ""
	for _, f := range all {
		text += f.text + ";"
	}
	return text
}

// effects: what the actions write, a fact or a cell that is emptied, whether
// one ends the run, and whether all expressions are digits.
func (f found) effects() (texts []string, halts, right bool) {
	for _, action := range f.actions {
		if action == "." {
			halts = true
			continue
		}
		text := []byte(action[1:2])
		for _, b := range []byte(action[2:]) {
			digit, bound := f.variables[b]
			switch {
			case b == '^':
				text[len(text)-1]++
			case b == '~':
				text[len(text)-1]--
			case bound:
				text = append(text, digit)
			default:
				text = append(text, b)
			}
		}
		if strings.Trim(string(text[1:]), "0123456789") != "" {
			return nil, false, false
		}
		texts = append(texts, string(text))
	}
	return texts, halts, true
}

// isPattern: one that is not negated.
func isPattern(condition string) bool { return condition[0] >= 'a' && condition[0] <= 'f' }

// choices: all ways to choose a fact of its class for each pattern.
func choices(conditions []string, facts []dated) [][]dated {
	all := [][]dated{nil}
	for _, condition := range conditions {
		if !isPattern(condition) {
			continue
		}
		var longer [][]dated
		for _, chosen := range all {
			for _, d := range facts {
				if d.fact[0] == condition[0] {
					longer = append(longer, append(slices.Clone(chosen), d))
				}
			}
		}
		all = longer
	}
	return all
}

// fits: do the chosen facts go with all conditions? What the variables are then
// is laid in the map.
func fits(conditions []string, chosen, facts []dated, variables map[byte]byte) bool {
	i := 0
	for _, condition := range conditions {
		if !isPattern(condition) {
			continue
		}
		for _, place := range []int{1, 2} {
			term, digit := condition[place], chosen[i].fact[place]
			if had, bound := variables[term]; bound && had != digit {
				return false
			}
			if term >= 'w' && term <= 'z' {
				variables[term] = digit
			} else if term != '_' && term != digit {
				return false
			}
		}
		i++
	}
	digit := func(term byte) byte {
		if d, bound := variables[term]; bound {
			return d
		}
		return term
	}
	for _, c := range conditions {
		switch {
		case c[0] == '!':
			for _, d := range facts {
				first, second := digit(c[2]), digit(c[3])
				if d.fact[0] == c[1] && (first == '_' || first == d.fact[1]) && (second == '_' || second == d.fact[2]) {
					return false
				}
			}
		case c[1] == '<' && digit(c[0]) >= digit(c[2]):
			return false
		case c[1] == '=' && digit(c[0]) != digit(c[2]):
			return false
		case c[1] == '#' && digit(c[0]) == digit(c[2]):
			return false
		}
	}
	return true
}

// rules: some that New takes, of few classes and digits, so that facts of few
// cells go with many of them.
func (s *script) rules(t *testing.T) string {
	t.Helper()
	one := func(bytes string) string { return string(bytes[s.pick(len(bytes))]) }
	for {
		text := ""
		for number := 1 + s.pick(4); number > 0; number-- {
			var conditions []string
			for count := 1 + s.pick(5); count > 0; count-- {
				switch kind := s.pick(6); {
				case kind < 4:
					conditions = append(conditions, one("aab")+one("wxyz_1")+one("wxyz_1"))
				case kind < 5:
					conditions = append(conditions, "!"+one("ab")+one("wxyz0123")+one("wxyz_012"))
				default:
					conditions = append(conditions, one("wxyz012")+one("<=#")+one("wxyz012"))
				}
			}
			text += one("035") + ":" + strings.Join(conditions, ",") + ">" + s.actions(conditions) + ";"
		}
		if _, e, _ := precept.New(text, 9); e == api.OK {
			return text
		}
	}
}

// actions: some that the conditions allow. They write few cells, which are now
// and then no cells at all.
func (s *script) actions(conditions []string) string {
	terms := "0123"
	for _, condition := range conditions {
		if isPattern(condition) {
			terms += strings.Repeat(strings.Trim(condition[1:], "_0123456789"), 2)
		}
	}
	one := func() string {
		return string(terms[s.pick(len(terms))]) + []string{"", "", "", "^", "~"}[s.pick(5)]
	}
	var list []string
	for count := 1 + s.pick(4); count > 0; count-- {
		switch kind := s.pick(9); {
		case kind < 5:
			list = append(list, "+"+string("aabc"[s.pick(4)])+one()+one())
		case kind < 8:
			list = append(list, "-"+string("aabc"[s.pick(4)])+one())
		default:
			list = append(list, ".")
		}
	}
	return strings.Join(list, ",")
}

// Behind each call the sessions' matches are what the words say, if they are
// taken one by one.
func TestP8P9ManyRulesAndCalls(t *testing.T) {
	some, several, ends := 0, 0, [5]int{}
	for seed := uint32(1); seed <= 400; seed++ {
		s := &script{state: seed, few: true}
		rules := s.rules(t)
		x, m := ruled(t, rules), newModel(rules)
		for i := 0; i < 150; i++ {
			answer := play(t, s, x, m, 1)[0]
			var fired, why int
			if n, _ := fmt.Sscan(answer, &fired, &why, new(int)); n == 3 && fired > 1 {
				ends[why]++
			}
			for session := range m.open {
				v, e := x.Matches(session)
				if got, want := fmt.Sprint(v, e), m.matches(session); got != want {
					t.Fatalf("P8: seed %d, rules %q, facts %s: Matches(%d) = %q, want %q",
						seed, rules, m.view(session), session, got, want)
				}
				some += min(strings.Count(v, ";"), 1)
				several += min(strings.Count(v, ";")/4, 1)
			}
		}
	}
	if some < 30000 || several < 10000 {
		t.Errorf("only %d with matches, %d with several: the scripts are too tame", some, several)
	}
	if min(ends[api.Still], ends[api.Spent], ends[api.Halted], ends[api.Wrong]) < 20 {
		t.Errorf("only %v runs for each reason: the scripts are too tame", ends)
	}
}
