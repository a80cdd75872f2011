package ruleset

import "precept/cells"

// reader goes along the text. Each of its methods that reads a part of the
// form answers whether the part was there; if not, at is the place of the
// first byte that cannot stand there, or the text's length.
type reader struct {
	text string
	at   int
}

// peek is the next byte. At the end it is 0, which stands nowhere in the form.
func (r *reader) peek() byte {
	if r.at < 0 || r.at >= len(r.text) {
		return 0
	}
	return r.text[r.at]
}

func (r *reader) mark(want byte) bool {
	if r.peek() != want {
		return false
	}
	r.at++
	return true
}

func (r *reader) digit() (int, bool) {
	next := r.peek()
	digit, ok := cells.Digit(next)
	if ok {
		r.at++
	}
	return digit, ok
}

func (r *reader) class() (int, bool) {
	next := r.peek()
	class, ok := cells.Class(next)
	if ok {
		r.at++
	}
	return class, ok
}

// operand reads a digit or a variable.
func (r *reader) operand() (Term, bool) {
	digit, isDigit := r.digit()
	if isDigit {
		return Term{Kind: Digit, Value: digit}, true
	}
	next := r.peek()
	if next < 'w' || next > 'z' {
		return Term{}, false
	}
	r.at++
	return Term{Kind: Variable, Value: int(next - 'w')}, true
}

func (r *reader) term() (Term, bool) {
	if r.mark('_') {
		return Term{Kind: Any}, true
	}
	return r.operand()
}

func (r *reader) expression() (Expression, bool) {
	term, ok := r.operand()
	if !ok {
		return Expression{}, false
	}
	step := 0
	if r.mark('^') {
		step = 1
	} else if r.mark('~') {
		step = -1
	}
	return Expression{Term: term, Step: step}, true
}

func (r *reader) pattern(kind int) (Condition, bool) {
	class, ok := r.class()
	if !ok {
		return Condition{}, false
	}
	first, ok := r.term()
	if !ok {
		return Condition{}, false
	}
	second, ok := r.term()
	return Condition{Kind: kind, Class: class, First: first, Second: second}, ok
}

func (r *reader) sign() (byte, bool) {
	next := r.peek()
	if next != '<' && next != '=' && next != '#' {
		return 0, false
	}
	r.at++
	return next, true
}

func (r *reader) test() (Condition, bool) {
	first, ok := r.operand()
	if !ok {
		return Condition{}, false
	}
	sign, ok := r.sign()
	if !ok {
		return Condition{}, false
	}
	second, ok := r.operand()
	return Condition{Kind: Test, Sign: sign, First: first, Second: second}, ok
}

func (r *reader) condition() (Condition, bool) {
	if r.mark('!') {
		return r.pattern(Negated)
	}
	next := r.peek()
	_, isClass := cells.Class(next)
	if isClass {
		return r.pattern(Pattern)
	}
	return r.test()
}

// conditions reads them with the `>` behind the last one.
func (r *reader) conditions() ([]Condition, bool) {
	var conditions []Condition
	for r.at < len(r.text) {
		condition, ok := r.condition()
		if !ok {
			return nil, false
		}
		conditions = append(conditions, condition)
		if r.mark('>') {
			return conditions, true
		}
		if !r.mark(',') {
			return nil, false
		}
	}
	return nil, false
}

func (r *reader) fill() (Action, bool) {
	class, ok := r.class()
	if !ok {
		return Action{}, false
	}
	first, ok := r.expression()
	if !ok {
		return Action{}, false
	}
	second, ok := r.expression()
	return Action{Kind: Fill, Class: class, First: first, Second: second}, ok
}

func (r *reader) empty() (Action, bool) {
	class, ok := r.class()
	if !ok {
		return Action{}, false
	}
	first, ok := r.expression()
	return Action{Kind: Empty, Class: class, First: first}, ok
}

func (r *reader) action() (Action, bool) {
	if r.mark('+') {
		return r.fill()
	}
	if r.mark('-') {
		return r.empty()
	}
	ok := r.mark('.')
	return Action{Kind: Halt}, ok
}

// actions reads them with the `;` behind the last one.
func (r *reader) actions() ([]Action, bool) {
	var actions []Action
	for r.at < len(r.text) {
		action, ok := r.action()
		if !ok {
			return nil, false
		}
		actions = append(actions, action)
		if r.mark(';') {
			return actions, true
		}
		if !r.mark(',') {
			return nil, false
		}
	}
	return nil, false
}

func (r *reader) rule() (Rule, bool) {
	weight, ok := r.digit()
	if !ok {
		return Rule{}, false
	}
	if !r.mark(':') {
		return Rule{}, false
	}
	conditions, ok := r.conditions()
	if !ok {
		return Rule{}, false
	}
	actions, ok := r.actions()
	return Rule{Weight: weight, Conditions: conditions, Actions: actions}, ok
}

func (r *reader) rules() ([]Rule, bool) {
	var rules []Rule
	for r.at < len(r.text) {
		rule, ok := r.rule()
		if !ok {
			return nil, false
		}
		rules = append(rules, rule)
	}
	return rules, true
}
