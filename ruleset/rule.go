// Package ruleset: rules, read from their text.
package ruleset

// What a term is. Any is 0, so that a term that is not there binds nothing
// and needs nothing.
const (
	Any      = 0
	Digit    = 1
	Variable = 2
)

// Variables is how many variables there are.
const Variables = 4

// Term is a digit, a variable (`w` is 0, `z` is 3) or anything.
type Term struct {
	Kind  int
	Value int
}

// What a condition is.
const (
	Pattern = 1
	Negated = 2
	Test    = 3
)

// Condition is a pattern of a class, negated or not, or a test by a sign.
type Condition struct {
	Kind   int
	Class  int
	Sign   byte
	First  Term
	Second Term
}

// Expression is a digit or a variable, and what is added to it.
type Expression struct {
	Term Term
	Step int
}

// What an action does.
const (
	Fill  = 1
	Empty = 2
	Halt  = 3
)

// Action is a write to a cell, or the end of a run.
type Action struct {
	Kind   int
	Class  int
	First  Expression
	Second Expression
}

// Rule is one rule.
type Rule struct {
	Weight     int
	Conditions []Condition
	Actions    []Action
}
