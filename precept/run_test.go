package precept_test

import (
	"fmt"
	"strings"
	"testing"

	"precept/api"
	"precept/precept"
)

// runs: does a run fire so many, and is this why it ends?
func runs(t *testing.T, x *precept.Engine, session, fuel, fired, why int) {
	t.Helper()
	if n, w, e := x.Run(session, fuel); n != fired || w != why || e != api.OK {
		t.Errorf("P9: Run(%d, %d) = %d, %d, %d, want %d, %d", session, fuel, n, w, e, fired, why)
	}
}

// run: rules, what the first session of an engine writes, the fuel, what the run
// answers, and what the session sees and matches behind it.
type run struct {
	rules, facts     string
	fuel, fired, why int
	view, matches    string
}

func runAll(t *testing.T, list []run) {
	t.Helper()
	for _, c := range list {
		x := ruled(t, c.rules)
		opens(t, x, 1)
		writes(t, x, 1, c.facts)
		fired, why, e := x.Run(1, c.fuel)
		view, _ := x.View(1)
		open, _ := x.Matches(1)
		if got := (run{c.rules, c.facts, c.fuel, fired, why, view, open}); got != c || e != api.OK {
			t.Errorf("P9: %+v, error %d, want %+v", got, e, c)
		}
	}
}

func TestP9Examples(t *testing.T) {
	x := ruled(t, "5:axy>+bxy;")
	opens(t, x, 1)
	writes(t, x, 1, "a37a14")
	matches(t, x, 1, "0a14;0a37;")
	runs(t, x, 1, 1, 1, api.Spent)
	matches(t, x, 1, "0a37;")
	sees(t, x, 1, "a14a37b14")
	runs(t, x, 1, 9, 1, api.Still)
	matches(t, x, 1, "")
	writes(t, x, 1, "a37")
	matches(t, x, 1, "0a37;")

	x = ruled(t, "1:axy,!by_>+byx;9:axy,bxz,y#z>-bx,.;")
	opens(t, x, 1)
	writes(t, x, 1, "a12b13")
	runs(t, x, 1, 5, 1, api.Halted)
	sees(t, x, 1, "a12")
	runs(t, x, 1, 5, 1, api.Still)
	sees(t, x, 1, "a12b21")

	runAll(t, []run{
		{"5:axy>+axy^;", "a17", 9, 2, api.Wrong, "a19", "0a19;"},
		{"5:3<4>+a00;", "", 9, 1, api.Still, "a00", ""},
	})
}

func TestP9Fuel(t *testing.T) {
	runAll(t, []run{
		{"5:axy>+bxy;", "a11a22a33", 0, 0, api.Spent, "a11a22a33", "0a33;0a22;0a11;"},
		{"5:axy>+bxy;", "a11a22a33", 1, 1, api.Spent, "a11a22a33b33", "0a22;0a11;"},
		{"5:axy>+bxy;", "a11a22a33", 2, 2, api.Spent, "a11a22a33b22b33", "0a11;"},
		{"5:axy>+bxy;", "a11a22a33", 3, 3, api.Still, "a11a22a33b11b22b33", ""},
		{"5:axy>+bxy;", "a11a22a33", 4, 3, api.Still, "a11a22a33b11b22b33", ""},
		{"5:axy>+bxy;", "a11a22a33", 99, 3, api.Still, "a11a22a33b11b22b33", ""},
		{"5:axy>+axy;", "a11", 99, 99, api.Spent, "a11", "0a11;"},
		{"5:axy>+axy;", "a11", 98, 98, api.Spent, "a11", "0a11;"},
	})
}

func TestP9NothingOpen(t *testing.T) {
	for _, fuel := range []int{0, 1, 99} {
		runAll(t, []run{
			{"", "", fuel, 0, api.Still, "", ""},
			{"", "a11", fuel, 0, api.Still, "a11", ""},
			{"5:axy>+bxy;", "", fuel, 0, api.Still, "", ""},
			{"5:axy>+bxy;", "b11a2.", fuel, 0, api.Still, "b11", ""},
			{"5:axy>+ax9^;", "b11", fuel, 0, api.Still, "b11", ""},
			{"5:1=2>.;", "a11", fuel, 0, api.Still, "a11", ""},
		})
	}
}

// What is written stands where the expressions say, digit for digit.
func TestP9Expressions(t *testing.T) {
	for digit := 0; digit < 10; digit++ {
		for value := 0; value < 10; value++ {
			for sign, step := range map[string]int{"": 0, "^": 1, "~": -1} {
				fact := fmt.Sprintf("a%d%d", digit, value)
				up, view := run{fired: 1, why: api.Still}, fact
				if d := digit + step; d < 0 || d > 9 {
					up = run{why: api.Wrong, matches: "0" + fact + ";"}
				} else {
					view += fmt.Sprintf("b%d%d", d, value)
				}
				runAll(t, []run{
					{fmt.Sprintf("5:axy>+bx%sy;", sign), fact, 9, up.fired, up.why, view, up.matches},
					{fmt.Sprintf("5:a__>+b%d%s%d;", digit, sign, value), fact, 9, up.fired, up.why, view, up.matches},
				})
				up, view = run{fired: 1, why: api.Still}, fact
				if v := value + step; v < 0 || v > 9 {
					up = run{why: api.Wrong, matches: "0" + fact + ";"}
				} else {
					view += fmt.Sprintf("f%d%d", digit, v)
				}
				runAll(t, []run{
					{fmt.Sprintf("5:azw>+fzw%s;", sign), fact, 9, up.fired, up.why, view, up.matches},
					{fmt.Sprintf("5:a__>+f%d%d%s;", digit, value, sign), fact, 9, up.fired, up.why, view, up.matches},
				})
			}
		}
	}
}

func TestP9ExpressionsThatAreNoDigits(t *testing.T) {
	for _, actions := range []string{
		"+bx9^", "+bx0~", "+b9^x", "+b0~x", "-b9^", "-b0~", "+by^0", "+cw~0", "+c0y^", "+c0w~", "-by^", "-cw~",
	} {
		for _, all := range []string{
			actions, actions + ",+d00", "+d00," + actions, "-a5," + actions + ",-ax", "+axx,+e11,.," + actions,
			actions + ",.", ".," + actions, actions + "," + actions,
		} {
			rules := "5:a_x,a_y,a_w,y=9,w=0>" + all + ";"
			x := ruled(t, rules)
			opens(t, x, 1)
			writes(t, x, 1, "a00a55a99")
			open, _ := x.Matches(1)
			for _, fuel := range []int{1, 99} {
				runs(t, x, 1, fuel, 0, api.Wrong)
				sees(t, x, 1, "a00a55a99")
				matches(t, x, 1, open)
			}
			runs(t, x, 1, 0, 0, api.Spent)
			answers(t, "P5: Abort", x.Abort(1), api.OK)
			opens(t, x, 2)
			writes(t, x, 2, "a00")
			runs(t, x, 2, 99, 0, api.Still)
		}
	}
}

// What was fired ahead of it in the same call stays done.
func TestP9WrongBehindOthers(t *testing.T) {
	runAll(t, []run{
		{"5:axy>+axy^;", "a17", 1, 1, api.Spent, "a18", "0a18;"},
		{"5:axy>+axy^;", "a17", 2, 2, api.Spent, "a19", "0a19;"},
		{"5:axy>+axy^;", "a17", 3, 2, api.Wrong, "a19", "0a19;"},
		{"5:axy>+axy~;", "a12", 99, 2, api.Wrong, "a10", "0a10;"},
		{"5:axy>+ax^y,-ax;", "a70", 99, 2, api.Wrong, "a90", "0a90;"},
		{"5:axy>-ax,+ax~y;", "a35a10", 99, 1, api.Wrong, "a00a35", "0a00;0a35;"},
		{"5:axy>+bx^y;", "a11a99a22", 99, 1, api.Wrong, "a11a22a99b32", "0a99;0a11;"},
		{"5:axy>+bx^y;9:a9_>-a9;", "a11a99a22", 99, 3, api.Still, "a11a22b21b32", ""},
	})
	x := ruled(t, "5:axy>+bx^y;")
	opens(t, x, 1)
	writes(t, x, 1, "a11a99")
	runs(t, x, 1, 9, 0, api.Wrong)
	runs(t, x, 1, 9, 0, api.Wrong)
	writes(t, x, 1, "a22")
	runs(t, x, 1, 9, 1, api.Wrong)
	matches(t, x, 1, "0a99;0a11;")
	writes(t, x, 1, "a9.")
	runs(t, x, 1, 9, 1, api.Still)
	sees(t, x, 1, "a11a22b21b32")
	commits(t, x, 1, 1)
}

// Nothing is written of what went wrong: a session has no writes then.
func TestP9WrongIsNoWrite(t *testing.T) {
	x := ruled(t, "5:1=1>+a11,-b0,+c9^0;")
	opens(t, x, 1)
	runs(t, x, 1, 9, 0, api.Wrong)
	sees(t, x, 1, "")
	commits(t, x, 1, 0)
}

func TestP9Halt(t *testing.T) {
	for _, actions := range []string{".,+bxy,-ax", "+bxy,.,-ax", "+bxy,-ax,.", ".,.,+bxy,-ax", ".,+bxy,-ax,."} {
		runAll(t, []run{
			{"5:axy>" + actions + ";", "a11a22", 9, 1, api.Halted, "a11b22", "0a11;"},
			{"5:axy>" + actions + ";", "a11a22", 1, 1, api.Halted, "a11b22", "0a11;"},
			{"5:axy>" + actions + ";", "a11a22", 0, 0, api.Spent, "a11a22", "0a22;0a11;"},
			{"5:axy>" + actions + ";", "a11", 1, 1, api.Halted, "b11", ""},
		})
	}
	runAll(t, []run{
		{"5:a__>.;", "a11a22", 9, 1, api.Halted, "a11a22", "0a11;"},
		{"5:1=1>.;", "", 9, 1, api.Halted, "", ""},
		{"5:axy>+bxy;1:b__>.;", "a11a22", 9, 3, api.Halted, "a11a22b11b22", "1b22;"},
		{"9:axy>.;1:a__>+b00;", "a11", 9, 1, api.Halted, "a11", "1a11;"},
	})
	x := ruled(t, "5:a__>.;")
	opens(t, x, 1)
	writes(t, x, 1, "a11a22")
	runs(t, x, 1, 9, 1, api.Halted)
	runs(t, x, 1, 9, 1, api.Halted)
	runs(t, x, 1, 9, 0, api.Still)
	runs(t, x, 1, 0, 0, api.Still)
}

// One that only ends the run writes nothing.
func TestP9HaltIsNoWrite(t *testing.T) {
	x := ruled(t, "5:1=1>.;")
	opens(t, x, 1)
	runs(t, x, 1, 9, 1, api.Halted)
	commits(t, x, 1, 0)
}

func TestP9ActionsAreDoneInTheirOrder(t *testing.T) {
	runAll(t, []run{
		{"5:axy>+bxy,+bxy^,-bx;", "a11", 9, 1, api.Still, "a11", ""},
		{"5:axy>-bx,+bxy,+bxy^;", "a11", 9, 1, api.Still, "a11b12", ""},
		{"5:axy>+bxy^,-bx,+bxy;", "a11", 9, 1, api.Still, "a11b11", ""},
		{"5:a__>+b00,+c00;1:b__>.;1:c__>.;", "a11", 1, 1, api.Spent, "a11b00c00", "2c00;1b00;"},
		{"5:a__>+c00,+b00;1:b__>.;1:c__>.;", "a11", 1, 1, api.Spent, "a11b00c00", "1b00;2c00;"},
		{"5:a__>+b00,+c00,+b00;1:b__>.;1:c__>.;", "a11", 1, 1, api.Spent, "a11b00c00", "1b00;2c00;"},
		{"5:awx,byz>+czx,-aw,+dyw,-by;", "a12b34", 9, 1, api.Still, "c42d31", ""},
		{"5:awx,byz>+fzz,+exx,-d0,+dyw;", "a12b34", 9, 1, api.Still, "a12b34d31e22f44", ""},
	})
}

// The actions are worked out with the digits that the variables had ahead of
// all of them.
func TestP9ActionsDoNotChangeTheVariables(t *testing.T) {
	runAll(t, []run{
		{"5:axy>+axy^,+bxy,-ax,+cxy;", "a15", 9, 1, api.Still, "b15c15", ""},
		{"5:axy,byz>-by,+axz,+cyz;", "a12b23", 1, 1, api.Still, "a13c23", ""},
	})
}

func TestP9ActionsWriteTheirOwnFactsAnew(t *testing.T) {
	runAll(t, []run{
		{"5:axy>+axy;", "a11", 1, 1, api.Spent, "a11", "0a11;"},
		{"5:axy>+axy;", "a11", 7, 7, api.Spent, "a11", "0a11;"},
		{"5:axy>-ax;", "a11", 7, 1, api.Still, "", ""},
		{"5:axy>-ax,+axy;", "a11", 7, 7, api.Spent, "a11", "0a11;"},
		{"5:axy>+axy,-ax;", "a11", 7, 1, api.Still, "", ""},
		{"5:axy>+axy^,+axy;", "a11", 7, 7, api.Spent, "a11", "0a11;"},
		{"5:axy>+bxy,-bx;", "a11", 7, 1, api.Still, "a11", ""},
		{"5:axy,bxy>+bxy;", "a11b11", 7, 7, api.Spent, "a11b11", "0a11b11;"},
		{"5:axy,bxy>+axy;", "a11b11", 7, 7, api.Spent, "a11b11", "0a11b11;"},
		{"5:axy,b__,c__>+bxy;", "a11b11c11", 7, 7, api.Spent, "a11b11c11", "0a11b11c11;"},
		{"5:axy,b__,c__>+dxy;", "a11b11c11", 7, 1, api.Still, "a11b11c11d11", ""},
		{"5:axy,x=1>+a2y;5:axy,x=2>+a1y;", "a11", 7, 7, api.Spent, "a11a21", "1a21;"},
	})
}

// What was written anew is another one, even if it is the same value.
func TestP9FactsWrittenAnewAreOthers(t *testing.T) {
	x := ruled(t, "5:a__,b__>+c00;")
	opens(t, x, 1)
	writes(t, x, 1, "a11b11b22")
	runs(t, x, 1, 9, 2, api.Still)
	for _, c := range []struct{ facts, want string }{
		{"a11", "0a11b11;0a11b22;"}, {"b11", "0a11b11;"}, {"b2.b22", "0a11b22;"}, {"b22", "0a11b22;"},
		{"a12", "0a12b11;0a12b22;"}, {"a1.", ""}, {"a11", "0a11b11;0a11b22;"}, {"b23b22", "0a11b22;"},
		{"a1.a12a11", "0a11b11;0a11b22;"}, {"c11", ""}, {"b1.", ""}, {"c0.", ""}, {"b11", "0a11b11;"},
		{"a22", "0a22b11;0a22b22;"}, {"a2.", ""},
	} {
		writes(t, x, 1, c.facts)
		matches(t, x, 1, c.want)
		runs(t, x, 1, 9, strings.Count(c.want, ";"), api.Still)
		matches(t, x, 1, "")
	}
}

// One that is gone for a while, and comes back with the same facts and times,
// is fired still.
func TestP9FiredOnesThatComeBack(t *testing.T) {
	x := ruled(t, "5:axy,!bx_>+bxy;1:!c__>+c00;0:d__,!e__>+e00;")
	opens(t, x, 1)
	writes(t, x, 1, "a11a22d11")
	runs(t, x, 1, 9, 4, api.Still)
	sees(t, x, 1, "a11a22b11b22c00d11e00")
	writes(t, x, 1, "b1.b2.c0.e0.")
	matches(t, x, 1, "")
	runs(t, x, 1, 9, 0, api.Still)
	writes(t, x, 1, "b11b1.a22d22")
	matches(t, x, 1, "0a22;2d22;")
	runs(t, x, 1, 1, 1, api.Spent)
	writes(t, x, 1, "b2.")
	matches(t, x, 1, "2d22;")
	runs(t, x, 1, 9, 1, api.Still)
	writes(t, x, 1, "e0.")
	matches(t, x, 1, "")
}

func TestP9OneWithoutFactsIsFiredOnce(t *testing.T) {
	x := ruled(t, "5:1=1>+a11;5:!b__>+b00,.;")
	opens(t, x, 1)
	matches(t, x, 1, "0;1;")
	runs(t, x, 1, 9, 2, api.Halted)
	matches(t, x, 1, "")
	writes(t, x, 1, "a1.b0.")
	matches(t, x, 1, "")
	runs(t, x, 1, 9, 0, api.Still)
	writes(t, x, 1, "c00a11b00b0.")
	matches(t, x, 1, "")
	opens(t, x, 2)
	matches(t, x, 2, "0;1;")
	commits(t, x, 1, 1)
	opens(t, x, 3)
	matches(t, x, 3, "0;1;")
}

func TestP9TheFirstOneIsFired(t *testing.T) {
	runAll(t, []run{
		{"1:a__>+b00;9:a__>+c00;5:a__>+d00;", "a11", 1, 1, api.Spent, "a11c00", "2a11;0a11;"},
		{"1:a__>+b00;9:a__>+c00;5:a__>+d00;", "a11", 2, 2, api.Spent, "a11c00d00", "0a11;"},
		{"5:axy>+bxy;", "a22a11a33", 1, 1, api.Spent, "a11a22a33b33", "0a11;0a22;"},
		{"5:axy>+bxy;", "a22a11a33a22", 1, 1, api.Spent, "a11a22a33b22", "0a33;0a11;"},
		{"5:a__>+c00;5:a__>+d00;", "a11", 1, 1, api.Spent, "a11c00", "1a11;"},
		{"5:a_x,b__>+c0x;", "a22a11b00", 1, 1, api.Spent, "a11a22b00c01", "0a22b00;"},
		{"5:1=1>+c00;5:a__>+d00;", "a11", 1, 1, api.Spent, "a11d00", "0;"},
		{"4:1=1>+c00;5:a__>+d00;", "a11", 1, 1, api.Spent, "a11d00", "0;"},
		{"6:1=1>+c00;5:a__>+d00;", "a11", 1, 1, api.Spent, "a11c00", "1a11;"},
		{"5:axy,y<5>+axy^,+bxy;5:bxy>+cxy;", "a13", 2, 2, api.Spent, "a14b13c13", "0a14;"},
	})
}

// What is fired may open another one, or close it.
func TestP9RulesWorkTogether(t *testing.T) {
	runAll(t, []run{
		{"4:axy,byz>+cxz;5:cxy,x<y>-ax;", "a12b23", 9, 2, api.Still, "b23c13", ""},
		{"5:axy,ayx>+bxy;", "a12a21", 9, 2, api.Still, "a12a21b12b21", ""},
		{"5:axy,ayz,!bxz>+bxz;", "a12a23a31", 99, 3, api.Still, "a12a23a31b13b21b32", ""},
		{"5:axy>+bxy,-ax;5:bxy>+axy,-bx;", "a11", 9, 9, api.Spent, "b11", "1b11;"},
		{"9:bxy,y<9>+bxy^;1:axy>+bx0,-ax;", "a10a20", 99, 20, api.Still, "b19b29", ""},
		{"9:bxy,y<9>+bxy^;1:axy>+bx0,-ax;", "a10a20", 20, 20, api.Still, "b19b29", ""},
		{"9:bxy,y<9>+bxy^;1:axy>+bx0,-ax;", "a10a20", 19, 19, api.Spent, "b18b29", "0b18;"},
		{"5:a__,!c__>+c00;5:b__,!c__>+c11;", "a11b11", 9, 1, api.Still, "a11b11c11", ""},
	})
}

func TestP9TheNextCallsRemember(t *testing.T) {
	x := ruled(t, "5:axy>+bxy;4:a__>+c00;")
	opens(t, x, 1)
	writes(t, x, 1, "a11a22a33")
	for left, want := 5, "0a22;0a11;1a33;1a22;1a11;"; left >= 0; left-- {
		why := api.Spent
		if left == 0 {
			why = api.Still
		}
		runs(t, x, 1, 1, 1, why)
		matches(t, x, 1, want)
		matches(t, x, 1, want)
		runs(t, x, 1, 0, 0, why)
		want = want[min(len(want), 5):]
	}
	runs(t, x, 1, 99, 0, api.Still)
	sees(t, x, 1, "a11a22a33b11b22b33c00")
}

func TestP9NewSessionsHaveFiredNothing(t *testing.T) {
	x := ruled(t, "5:axy>+bxy;3:1=1>+c00;")
	opens(t, x, 1)
	writes(t, x, 1, "a11")
	runs(t, x, 1, 9, 2, api.Still)
	answers(t, "P5: Abort", x.Abort(1), api.OK)
	opens(t, x, 2)
	sees(t, x, 2, "")
	writes(t, x, 2, "a11")
	matches(t, x, 2, "0a11;1;")
	runs(t, x, 2, 9, 2, api.Still)
	commits(t, x, 2, 1)
	opens(t, x, 3)
	sees(t, x, 3, "a11b11c00")
	matches(t, x, 3, "0a11;1;")
	runs(t, x, 3, 1, 1, api.Spent)
	matches(t, x, 3, "1;")
	writes(t, x, 3, "a11")
	matches(t, x, 3, "0a11;1;")
}

func TestP9SessionsAreApart(t *testing.T) {
	x := ruled(t, "5:axy>+bxy;")
	opens(t, x, 1)
	writes(t, x, 1, "a11a22")
	commits(t, x, 1, 1)
	opens(t, x, 2)
	opens(t, x, 3)
	runs(t, x, 2, 1, 1, api.Spent)
	matches(t, x, 2, "0a22;")
	matches(t, x, 3, "0a11;0a22;")
	sees(t, x, 3, "a11a22")
	writes(t, x, 3, "a22")
	runs(t, x, 3, 1, 1, api.Spent)
	sees(t, x, 2, "a11a22b11")
	sees(t, x, 3, "a11a22b22")
	matches(t, x, 2, "0a22;")
	matches(t, x, 3, "0a11;")
	runs(t, x, 2, 9, 1, api.Still)
	runs(t, x, 3, 9, 1, api.Still)
	matches(t, x, 2, "")
	matches(t, x, 3, "")
	commits(t, x, 2, 2)
	matches(t, x, 3, "")
	conflicts(t, x, 3)
	lastly(t, x, "a11a22b11b22")
}

// A run sees the snapshot of its session, and not what others commit meanwhile.
func TestP9RunIsOverTheSnapshot(t *testing.T) {
	x := ruled(t, "5:axy>+bxy;")
	opens(t, x, 1)
	opens(t, x, 2)
	writes(t, x, 1, "a11")
	commits(t, x, 1, 1)
	runs(t, x, 2, 9, 0, api.Still)
	opens(t, x, 3)
	opens(t, x, 4)
	writes(t, x, 4, "a1.a22")
	commits(t, x, 4, 2)
	runs(t, x, 3, 9, 1, api.Still)
	sees(t, x, 3, "a11b11")
	commits(t, x, 3, 3)
	lastly(t, x, "a22b11")
}

func TestP9AbortBehindARun(t *testing.T) {
	x := ruled(t, "5:axy>+bxy,-ax;")
	opens(t, x, 1)
	writes(t, x, 1, "a11a22")
	commits(t, x, 1, 1)
	opens(t, x, 2)
	runs(t, x, 2, 9, 2, api.Still)
	sees(t, x, 2, "b11b22")
	answers(t, "P5: Abort", x.Abort(2), api.OK)
	notOpen(t, x, 2)
	opens(t, x, 3)
	sees(t, x, 3, "a11a22")
	matches(t, x, 3, "0a11;0a22;")
	writes(t, x, 3, "b10")
	commits(t, x, 3, 2)
}

func TestP9CommitBehindARun(t *testing.T) {
	x := ruled(t, "5:axy>+bxy,-ax,-c0;")
	for i := 1; i <= 5; i++ {
		opens(t, x, i)
	}
	writes(t, x, 1, "a11a22")
	writes(t, x, 2, "b20")
	writes(t, x, 3, "a1.")
	writes(t, x, 4, "c0.")
	writes(t, x, 5, "b00")
	runs(t, x, 1, 1, 1, api.Spent)
	commits(t, x, 1, 1)
	lastly(t, x, "a11b22")
	conflicts(t, x, 2) // the run wrote b2
	conflicts(t, x, 3)
	conflicts(t, x, 4) // the run emptied c0, which was empty
	commits(t, x, 5, 2)
	lastly(t, x, "a11b00b22")
}

func TestP9RunMayBeRefused(t *testing.T) {
	x := ruled(t, "5:axy>+bxy;")
	opens(t, x, 1)
	writes(t, x, 1, "a11")
	commits(t, x, 1, 1)
	opens(t, x, 2)
	opens(t, x, 3)
	writes(t, x, 2, "b10")
	commits(t, x, 2, 2)
	runs(t, x, 3, 9, 1, api.Still)
	conflicts(t, x, 3)
	lastly(t, x, "a11b10")
}

func TestP9WrongInputs(t *testing.T) {
	x := ruled(t, "5:axy>+bxy;")
	notOpen(t, x, 1)
	opens(t, x, 1)
	opens(t, x, 2)
	writes(t, x, 1, "a11a22")
	runs(t, x, 1, 1, 1, api.Spent)
	for _, fuel := range []int{-1, -2, 100, 101, 256, 1 << 32, 1<<32 + 1, 1 << 62, 1<<63 - 1, -1 << 63} {
		for _, session := range []int{1, 2} {
			if n, why, e := x.Run(session, fuel); n != 0 || why != 0 || e != api.ErrFuel {
				t.Errorf("P9: Run(%d, %d) = %d, %d, %d", session, fuel, n, why, e)
			}
		}
		for _, session := range append([]int{3, 9}, extremes...) {
			if n, why, e := x.Run(session, fuel); n != 0 || why != 0 || e != api.ErrSession {
				t.Errorf("P9: Run(%d, %d) = %d, %d, %d", session, fuel, n, why, e)
			}
		}
	}
	sees(t, x, 1, "a11a22b22")
	sees(t, x, 2, "")
	matches(t, x, 1, "0a11;")
	commits(t, x, 2, 0)
	runs(t, x, 1, 99, 1, api.Still)
	commits(t, x, 1, 1)
}

// All instantiations that a rule may have are fired once each, in their order.
func TestP9AllChoicesAreRemembered(t *testing.T) {
	x := ruled(t, "5:a__,b__,c__>+d00;5:!e__>+d11;")
	opens(t, x, 1)
	for digit := 0; digit < 10; digit++ {
		writes(t, x, 1, fmt.Sprintf("a%d0b%d0c%d0", digit, digit, digit))
	}
	left, _ := x.Matches(1)
	for fired := 0; fired < 1001; fired += 91 {
		why := api.Spent
		if fired+91 == 1001 {
			why = api.Still
		}
		runs(t, x, 1, 91, 91, why)
		left = left[min(91*11, len(left)):]
		matches(t, x, 1, left)
	}
	writes(t, x, 1, "b55")
	if m, _ := x.Matches(1); strings.Count(m, ";") != 100 || strings.Count(m, "b55") != 100 {
		t.Errorf("P9: behind b5 was written anew: %s", m)
	}
}

// The rule with the greatest number there may be is remembered apart.
func TestP9AllRulesAreRemembered(t *testing.T) {
	x := ruled(t, strings.Repeat("5:a__,a__,a__>+b00;", 9))
	opens(t, x, 1)
	writes(t, x, 1, "a99")
	for n := 0; n < 9; n++ {
		want := ""
		for rule := n; rule < 9; rule++ {
			want += fmt.Sprintf("%da99a99a99;", rule)
		}
		matches(t, x, 1, want)
		runs(t, x, 1, 1, 1, map[bool]int{true: api.Still, false: api.Spent}[n == 8])
	}
	matches(t, x, 1, "")
}
