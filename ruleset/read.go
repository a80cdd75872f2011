package ruleset

import "precept/api"

// Read reads rules. With an error it tells the place, as New does (P3).
func Read(text string) ([]Rule, api.Errno, int) {
	if len(text) > api.MaxText {
		return nil, api.ErrLong, 0
	}
	r := reader{text: text}
	rules, ok := r.rules()
	if !ok {
		return nil, api.ErrForm, r.at
	}
	number, found := firstOverfull(rules)
	if found {
		return nil, api.ErrMany, number
	}
	number, found = firstUnbound(rules)
	if found {
		return nil, api.ErrUnbound, number
	}
	return rules, api.OK, 0
}

func firstOverfull(rules []Rule) (int, bool) {
	for number, rule := range rules {
		if number >= api.MaxRules || overfull(rule) {
			return number, true
		}
	}
	return 0, false
}

func overfull(rule Rule) bool {
	if len(rule.Conditions) > api.MaxConds || len(rule.Actions) > api.MaxActs {
		return true
	}
	patterns := 0
	for _, condition := range rule.Conditions {
		if condition.Kind == Pattern {
			patterns++
		}
	}
	return patterns > api.MaxPats
}

func firstUnbound(rules []Rule) (int, bool) {
	for number, rule := range rules {
		if unbound(rule) {
			return number, true
		}
	}
	return 0, false
}

// unbound: has the rule a variable that stands in no pattern ahead of it?
// Negated patterns bind nothing.
func unbound(rule Rule) bool {
	var bound binding
	for _, condition := range rule.Conditions {
		if condition.Kind == Pattern {
			bound.add(condition.First)
			bound.add(condition.Second)
		} else if bound.lacks(condition.First, condition.Second) {
			return true
		}
	}
	for _, action := range rule.Actions {
		if bound.lacks(action.First.Term, action.Second.Term) {
			return true
		}
	}
	return false
}

// binding is which variables stand in a pattern so far.
type binding struct {
	has [Variables]bool
}

func (b *binding) add(term Term) {
	if term.Kind == Variable && term.Value >= 0 && term.Value < len(b.has) {
		b.has[term.Value] = true
	}
}

func (b *binding) lacks(first Term, second Term) bool {
	if b.lacksOne(first) {
		return true
	}
	return b.lacksOne(second)
}

func (b *binding) lacksOne(term Term) bool {
	if term.Kind != Variable || term.Value < 0 || term.Value >= len(b.has) {
		return false
	}
	return !b.has[term.Value]
}
