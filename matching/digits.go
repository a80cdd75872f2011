// Package matching: the instantiations of rules over facts, and their order.
package matching

import (
	"precept/cells"
	"precept/ruleset"
)

// digits is which variables of a rule have a digit so far, and which digit.
type digits struct {
	bound [ruleset.Variables]bool
	digit [ruleset.Variables]int
}

// with tells whether a term goes with a digit, and what the variables have then.
func (d digits) with(term ruleset.Term, digit int) (digits, bool) {
	if term.Kind == ruleset.Any {
		return d, true
	}
	if term.Kind == ruleset.Digit {
		return d, term.Value == digit
	}
	if term.Value < 0 || term.Value >= len(d.bound) {
		return d, false
	}
	if d.bound[term.Value] {
		return d, d.digit[term.Value] == digit
	}
	d.bound[term.Value] = true
	d.digit[term.Value] = digit
	return d, true
}

// goes tells whether a fact goes with a pattern, and what the variables have then.
func (d digits) goes(pattern ruleset.Condition, fact cells.Fact) (digits, bool) {
	if fact.Class != pattern.Class {
		return d, false
	}
	first, ok := d.with(pattern.First, fact.Digit)
	if !ok {
		return d, false
	}
	return first.with(pattern.Second, fact.Value)
}

// of is the digit that a term of a test is.
func (d digits) of(term ruleset.Term) int {
	if term.Kind == ruleset.Variable && term.Value >= 0 && term.Value < len(d.digit) {
		return d.digit[term.Value]
	}
	return term.Value
}

func (d digits) holds(test ruleset.Condition) bool {
	left := d.of(test.First)
	right := d.of(test.Second)
	switch test.Sign {
	case '<':
		return left < right
	case '=':
		return left == right
	}
	return left != right
}
