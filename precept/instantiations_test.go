package precept_test

import (
	"cmp"
	"fmt"
	"slices"
	"strings"
	"testing"

	"precept/api"
	"precept/precept"
)

// found: an instantiation, and what it is ordered by. Without facts its latest
// time is -1.
type found struct {
	weight, latest, rule int
	text                 string
}

// instantiations: those of the rules over some facts, as the document's words
// say: each way to choose the facts is tried, and asked of all conditions.
func instantiations(rules string, facts []dated) string {
	var all []found
	for number, rule := range strings.Split(strings.TrimSuffix(rules, ";"), ";") {
		if rule == "" {
			continue
		}
		conditions := strings.Split(rule[2:strings.Index(rule, ">")], ",")
		for _, chosen := range choices(conditions, facts) {
			f := found{int(rule[0] - '0'), -1, number, string('0' + byte(number))}
			for _, d := range chosen {
				f.text += d.fact
				f.latest = max(f.latest, d.time)
			}
			if fits(conditions, chosen, facts) {
				all = append(all, f)
			}
		}
	}
	slices.SortFunc(all, func(a, b found) int {
		return cmp.Or(b.weight-a.weight, b.latest-a.latest, a.rule-b.rule, strings.Compare(a.text, b.text))
	})
	text := ""
	for _, f := range all {
		text += f.text + ";"
	}
	return text
}

// isPattern: one that is not negated.
func isPattern(condition string) bool { return condition[0] >= 'a' && condition[0] <= 'f' }

// choices: all ways to choose a fact of its class for each pattern.
func choices(conditions []string, facts []dated) [][]dated {
	all := [][]dated{nil}
	for _, condition := range conditions {
		if !isPattern(condition) {
			continue
		}
		var longer [][]dated
		for _, chosen := range all {
			for _, d := range facts {
				if d.fact[0] == condition[0] {
					longer = append(longer, append(slices.Clone(chosen), d))
				}
			}
		}
		all = longer
	}
	return all
}

// fits: do the chosen facts go with all conditions?
func fits(conditions []string, chosen []dated, facts []dated) bool {
	variables := map[byte]byte{}
	i := 0
	for _, condition := range conditions {
		if !isPattern(condition) {
			continue
		}
		for _, place := range []int{1, 2} {
			term, digit := condition[place], chosen[i].fact[place]
			if had, bound := variables[term]; bound && had != digit {
				return false
			}
			if term >= 'w' && term <= 'z' {
				variables[term] = digit
			} else if term != '_' && term != digit {
				return false
			}
		}
		i++
	}
	digit := func(term byte) byte {
		if d, bound := variables[term]; bound {
			return d
		}
		return term
	}
	for _, c := range conditions {
		switch {
		case c[0] == '!':
			for _, d := range facts {
				first, second := digit(c[2]), digit(c[3])
				if d.fact[0] == c[1] && (first == '_' || first == d.fact[1]) && (second == '_' || second == d.fact[2]) {
					return false
				}
			}
		case c[1] == '<' && digit(c[0]) >= digit(c[2]):
			return false
		case c[1] == '=' && digit(c[0]) != digit(c[2]):
			return false
		case c[1] == '#' && digit(c[0]) == digit(c[2]):
			return false
		}
	}
	return true
}

// rules: some that New takes, of few classes and digits, so that facts of few
// cells go with many of them.
func (s *script) rules(t *testing.T) string {
	t.Helper()
	one := func(bytes string) string { return string(bytes[s.pick(len(bytes))]) }
	for {
		text := ""
		for number := 1 + s.pick(4); number > 0; number-- {
			var conditions []string
			for count := 1 + s.pick(5); count > 0; count-- {
				switch kind := s.pick(6); {
				case kind < 4:
					conditions = append(conditions, one("aab")+one("wxyz_1")+one("wxyz_1"))
				case kind < 5:
					conditions = append(conditions, "!"+one("ab")+one("wxyz0123")+one("wxyz_012"))
				default:
					conditions = append(conditions, one("wxyz012")+one("<=#")+one("wxyz012"))
				}
			}
			text += one("035") + ":" + strings.Join(conditions, ",") + ">.;"
		}
		if _, e, _ := precept.New(text, 9); e == api.OK {
			return text
		}
	}
}

// Behind each call the sessions' matches are what the words say, if they are
// taken one by one.
func TestP8ManyRulesAndCalls(t *testing.T) {
	some, several := 0, 0
	for seed := uint32(1); seed <= 400; seed++ {
		s := &script{state: seed, few: true}
		rules := s.rules(t)
		x, m := ruled(t, rules), newModel(rules)
		for i := 0; i < 100; i++ {
			play(t, s, x, m, 1)
			for session := range m.open {
				v, e := x.Matches(session)
				if got, want := fmt.Sprint(v, e), m.matches(session); got != want {
					t.Fatalf("P8: seed %d, rules %q, facts %s: Matches(%d) = %q, want %q",
						seed, rules, m.view(session), session, got, want)
				}
				some += min(strings.Count(v, ";"), 1)
				several += min(strings.Count(v, ";")/4, 1)
			}
		}
	}
	if some < 30000 || several < 10000 {
		t.Errorf("only %d with matches, %d with several: the scripts are too tame", some, several)
	}
}
