package matching

import (
	"precept/cells"
	"precept/ruleset"
)

// Effect is what an action writes: a cell, and what it has then.
type Effect struct {
	Cell  int
	State cells.State
}

// Outcome is what the actions of an instantiation come to: its effects, one
// behind the other, and whether the run ends behind them.
type Outcome struct {
	Effects []Effect
	Halts   bool
}

// WorkOut works out the actions of an instantiation. It tells whether all of
// their expressions are digits: if not, there is no outcome.
func WorkOut(rules []ruleset.Rule, n Instantiation) (Outcome, bool) {
	var outcome Outcome
	if n.Rule < 0 || n.Rule >= len(rules) {
		return outcome, false
	}
	for _, action := range rules[n.Rule].Actions {
		if action.Kind == ruleset.Halt {
			outcome.Halts = true
			continue
		}
		effect, ok := n.digits.effect(action)
		if !ok {
			return Outcome{}, false
		}
		outcome.Effects = append(outcome.Effects, effect)
	}
	return outcome, true
}

// effect is what an action writes, and whether its expressions are digits.
func (d digits) effect(action ruleset.Action) (Effect, bool) {
	digit, ok := d.result(action.First)
	if !ok {
		return Effect{}, false
	}
	effect := Effect{Cell: action.Class*cells.Digits + digit}
	if action.Kind == ruleset.Empty {
		return effect, true
	}
	value, ok := d.result(action.Second)
	effect.State = cells.State{Filled: true, Value: value}
	return effect, ok
}

// result is what an expression comes to, and whether that is a digit.
func (d digits) result(expression ruleset.Expression) (int, bool) {
	result := d.of(expression.Term) + expression.Step
	return result, result >= 0 && result < cells.Digits
}
