package ruleset

import (
	"reflect"
	"testing"

	"precept/api"
)

func digit(d int) Term { return Term{Kind: Digit, Value: d} }

// variable: `w` is 0.
func variable(name byte) Term { return Term{Kind: Variable, Value: int(name - 'w')} }

func TestReadTellsTheRules(t *testing.T) {
	got, e, place := Read("7:aw_,bxx,!f9x,x<3,4=w>+cw^0~,-dx,.;0:1#2>.;")
	want := []Rule{{
		Weight: 7,
		Conditions: []Condition{
			{Kind: Pattern, Class: 0, First: variable('w')},
			{Kind: Pattern, Class: 1, First: variable('x'), Second: variable('x')},
			{Kind: Negated, Class: 5, First: digit(9), Second: variable('x')},
			{Kind: Test, Sign: '<', First: variable('x'), Second: digit(3)},
			{Kind: Test, Sign: '=', First: digit(4), Second: variable('w')},
		},
		Actions: []Action{
			{Kind: Fill, Class: 2, First: Expression{variable('w'), 1}, Second: Expression{digit(0), -1}},
			{Kind: Empty, Class: 3, First: Expression{variable('x'), 0}},
			{Kind: Halt},
		},
	}, {
		Weight:     0,
		Conditions: []Condition{{Kind: Test, Sign: '#', First: digit(1), Second: digit(2)}},
		Actions:    []Action{{Kind: Halt}},
	}}
	if e != api.OK || place != 0 || !reflect.DeepEqual(got, want) {
		t.Errorf("Read = %v, %d, %d, want %v", got, e, place, want)
	}
}

func TestNoRulesAreRules(t *testing.T) {
	if got, e, place := Read(""); len(got) != 0 || e != api.OK || place != 0 {
		t.Errorf("Read of nothing = %v, %d, %d", got, e, place)
	}
}

func TestErrorsGiveNoRules(t *testing.T) {
	for _, text := range []string{"5:axy>.;x", "5:axy>.;5:axy>.,.,.,.,.;", "5:axy>.;5:axy>-az;"} {
		if got, e, _ := Read(text); got != nil || e == api.OK {
			t.Errorf("Read(%q) = %v, %d", text, got, e)
		}
	}
}

func TestEveryVariableIsBoundByItself(t *testing.T) {
	for _, bound := range "wxyz" {
		for _, used := range "wxyz" {
			want := api.OK
			if bound != used {
				want = api.ErrUnbound
			}
			for _, use := range []string{",!b%_>.;", ",!b_%>.;", ",%<3>.;", ",3#%>.;", ">-b%;", ">+b%0;", ">+b0%~;", ">.,-b%^;"} {
				for _, pattern := range []string{"5:a%_", "5:a_%", "5:f%%"} {
					text := fill(pattern, bound) + fill(use, used)
					if _, e, place := Read(text); e != want || place != 0 {
						t.Errorf("Read(%q) = %d, %d, want %d", text, e, place, want)
					}
				}
			}
		}
	}
}

// fill: the text with a variable for each %.
func fill(text string, name rune) string {
	out := ""
	for _, r := range text {
		if r == '%' {
			r = name
		}
		out += string(r)
	}
	return out
}
