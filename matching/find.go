package matching

import (
	"precept/api"
	"precept/cells"
	"precept/ruleset"
)

// Instantiation is a rule's number and weight, and a fact for each of its
// patterns. Latest is the latest of their times; times are from 1 on, so that
// 0 is that of one without facts, which comes behind the others.
type Instantiation struct {
	Rule   int
	Weight int
	Latest int
	Count  int
	Facts  [api.MaxPats]cells.Fact
	digits digits
}

// with tells whether a fact goes with the next pattern, and what there is then.
func (n Instantiation) with(pattern ruleset.Condition, fact cells.Fact) (Instantiation, bool) {
	bound, ok := n.digits.goes(pattern, fact)
	if !ok || n.Count < 0 || n.Count >= len(n.Facts) {
		return n, false
	}
	n.digits = bound
	n.Facts[n.Count] = fact
	n.Count++
	if fact.Time > n.Latest {
		n.Latest = fact.Time
	}
	return n, true
}

// Open is the open instantiations of the rules over some facts: those that are
// not remembered as fired. As the facts are in the order of their cells, those
// of one rule are in the order of their writing.
func Open(rules []ruleset.Rule, facts []cells.Fact, memory *Memory) []Instantiation {
	var open []Instantiation
	for number, rule := range rules {
		own := complete(number, rule, facts)
		for _, one := range own {
			if !memory.Has(one) {
				open = append(open, one)
			}
		}
	}
	return open
}

// First is the first open instantiation in the order, if there is one. Of those
// with the same weight and latest time it is the one that Open lists first.
func First(rules []ruleset.Rule, facts []cells.Fact, memory *Memory) (Instantiation, bool) {
	var first Instantiation
	found := false
	for number, rule := range rules {
		own := complete(number, rule, facts)
		for _, one := range own {
			better := !found || ahead(one, first)
			if better && !memory.Has(one) {
				first = one
				found = true
			}
		}
	}
	return first, found
}

// complete is all instantiations of a rule: it goes along the conditions. A
// negated pattern or a test may be asked where it stands, as all its variables
// stand in patterns ahead of it.
func complete(number int, rule ruleset.Rule, facts []cells.Fact) []Instantiation {
	list := []Instantiation{{Rule: number, Weight: rule.Weight}}
	for _, condition := range rule.Conditions {
		switch condition.Kind {
		case ruleset.Pattern:
			list = extended(list, condition, facts)
		case ruleset.Negated:
			list = without(list, condition, facts)
		case ruleset.Test:
			list = holding(list, condition)
		}
	}
	return list
}

// extended is each one of a list with each fact that goes with a pattern.
func extended(list []Instantiation, pattern ruleset.Condition, facts []cells.Fact) []Instantiation {
	own := ofClass(facts, pattern.Class)
	var longer []Instantiation
	for _, one := range list {
		for _, fact := range own {
			next, ok := one.with(pattern, fact)
			if ok {
				longer = append(longer, next)
			}
		}
	}
	return longer
}

// ofClass is those of some facts that a pattern of this class may go with.
func ofClass(facts []cells.Fact, class int) []cells.Fact {
	var own []cells.Fact
	for _, fact := range facts {
		if fact.Class == class {
			own = append(own, fact)
		}
	}
	return own
}

// without is those of a list for which no fact goes with a negated pattern.
func without(list []Instantiation, pattern ruleset.Condition, facts []cells.Fact) []Instantiation {
	var kept []Instantiation
	for _, one := range list {
		if !one.digits.goesWithAny(pattern, facts) {
			kept = append(kept, one)
		}
	}
	return kept
}

func (d digits) goesWithAny(pattern ruleset.Condition, facts []cells.Fact) bool {
	for _, fact := range facts {
		_, ok := d.goes(pattern, fact)
		if ok {
			return true
		}
	}
	return false
}

// holding is those of a list for which a test holds.
func holding(list []Instantiation, test ruleset.Condition) []Instantiation {
	var kept []Instantiation
	for _, one := range list {
		if one.digits.holds(test) {
			kept = append(kept, one)
		}
	}
	return kept
}
