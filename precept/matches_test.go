package precept_test

import (
	"fmt"
	"strings"
	"testing"

	"precept/api"
	"precept/precept"
)

// matches: are these the open instantiations of a session?
func matches(t *testing.T, x *precept.Engine, session int, want string) {
	t.Helper()
	if m, e := x.Matches(session); m != want || e != api.OK {
		t.Errorf("P8: Matches(%d) = %q, %d, want %q", session, m, e, want)
	}
}

// match: rules, what the first session of an engine writes, and what matches.
type match struct{ rules, facts, want string }

func matchAll(t *testing.T, list []match) {
	t.Helper()
	for _, c := range list {
		x := ruled(t, c.rules)
		opens(t, x, 1)
		writes(t, x, 1, c.facts)
		if m, e := x.Matches(1); m != c.want || e != api.OK {
			t.Errorf("P8: rules %q, facts %q: Matches = %q, %d, want %q", c.rules, c.facts, m, e, c.want)
		}
	}
}

func TestP8Examples(t *testing.T) {
	matchAll(t, []match{
		{"5:axy>+bxy;", "a37a14", "0a14;0a37;"},
		{"5:axy>+bxy;", "a37a14a37", "0a37;0a14;"},
		{"1:axy,!by_>+byx;9:axy,bxz,y#z>-bx,.;", "a12b13", "1a12b13;0a12;"},
		{"1:axy,!by_>+byx;9:axy,bxz,y#z>-bx,.;", "a12b13b1.", "0a12;"},
		{"1:axy,!by_>+byx;9:axy,bxz,y#z>-bx,.;", "a12b13b1.b21", ""},
		{"5:axy>+axy^;", "a17", "0a17;"},
		{"5:3<4>+a00;", "", "0;"},
	})
}

func TestP8NothingToMatch(t *testing.T) {
	matchAll(t, []match{
		{"", "", ""}, {"", "a11b22", ""},
		{"5:a__>.;", "", ""}, {"5:a__>.;", "b11c11d11e11f11", ""}, {"5:f__>.;", "e99f99f9.", ""},
		{"5:a__,b__>.;", "a11", ""}, {"5:a__,b__>.;", "b11", ""}, {"5:a__,b__,c__>.;", "a11b11", ""},
	})
}

func TestP8RuleWithoutPatterns(t *testing.T) {
	matchAll(t, []match{
		{"5:1=1>.;", "", "0;"}, {"5:1=1>.;", "a11a22b33", "0;"}, {"5:1=2>.;", "a11", ""},
		{"5:!a__>.;", "", "0;"}, {"5:!a__>.;", "b11f11", "0;"}, {"5:!a__>.;", "a00", ""},
		{"5:!a__>.;", "a00a0.", "0;"}, {"5:!a__,!b__>.;", "b00", ""}, {"5:!a__,!b__>.;", "a00", ""},
		{"5:!a__,!b__>.;", "c00", "0;"}, {"5:!a__,1<1>.;", "", ""}, {"5:1<1,!a__>.;", "", ""},
		{"5:0<1,1<2,2<3,3<4,4<5>.;", "", "0;"}, {"5:0<1,1<2,2<3,3<4,4<4>.;", "", ""},
		{"5:2#1>.;5:1#1>.;5:9=9>.;", "", "0;2;"},
	})
}

func TestP8Terms(t *testing.T) {
	matchAll(t, []match{
		{"5:a12>.;", "a12", "0a12;"}, {"5:a12>.;", "a21", ""}, {"5:a12>.;", "a13", ""},
		{"5:a12>.;", "a22", ""}, {"5:a12>.;", "b12", ""}, {"5:f90>.;", "f90", "0f90;"},
		{"5:a1_>.;", "a10", "0a10;"}, {"5:a1_>.;", "a01", ""}, {"5:a_1>.;", "a01", "0a01;"}, {"5:a_1>.;", "a10", ""},
		{"5:a__>.;", "a09a90", "0a90;0a09;"}, {"5:f_0>.;", "f90f81f70", "0f70;0f90;"},
		{"5:awz>.;", "a35", "0a35;"}, {"5:ax3>.;", "a33a53a45", "0a53;0a33;"}, {"5:a3x>.;", "a53a35", "0a35;"},
		{"5:a__,b__>.;", "a12b34", "0a12b34;"}, {"5:a_1,b_1>.;", "a11b21", "0a11b21;"},
		{"5:a__,b__>.;", "b34a12", "0a12b34;"}, {"5:b__,a__>.;", "a12b34", "0b34a12;"},
		{"5:a__,b__,c__>.;", "c56b34a12", "0a12b34c56;"},
	})
}

// A variable is the same digit wherever it stands, be that a cell's digit or a
// value.
func TestP8VariablesThatStandTwice(t *testing.T) {
	matchAll(t, []match{
		{"5:axx>.;", "a00a11a22a29a98a99", "0a99;0a11;0a00;"}, {"5:axx>.;", "a01", ""},
		{"5:aww,bzz>.;", "a11b22", "0a11b22;"}, {"5:aww,bww>.;", "a11b22", ""}, {"5:aww,bww>.;", "a11b22b11", "0a11b11;"},
		{"5:axy,bxz>.;", "a12b13", "0a12b13;"}, {"5:axy,bxz>.;", "a12b23", ""},
		{"5:axy,byx>.;", "a12b21", "0a12b21;"}, {"5:axy,byx>.;", "a12b22", ""}, {"5:axy,byx>.;", "a12b11", ""},
		{"5:axy,byz,czx>.;", "a12b23c31", "0a12b23c31;"}, {"5:axy,byz,czx>.;", "a12b23c32", ""},
		{"5:axy,byz,czx>.;", "a12b24c31", ""}, {"5:axy,b_y>.;", "a12b32b42b21", "0a12b42;0a12b32;"},
		{"5:axy,bxy>.;", "a12b12", "0a12b12;"}, {"5:axy,bxy>.;", "a12b13", ""}, {"5:axy,bxy>.;", "a12b22", ""},
		{"5:ax_,bx_,cx_>.;", "a10b11c12c22", "0a10b11c12;"}, {"5:awx,bxy,cyz>.;", "a01b12c23", "0a01b12c23;"},
		{"5:ax_,bzz,c_x>.;", "a10b55c01c25", "0a10b55c01;"},
	})
}

func TestP8VariablesAreTheRulesOwn(t *testing.T) {
	matchAll(t, []match{
		{"5:axy>.;5:bxy>.;", "a12b34", "1b34;0a12;"},
		{"5:ax_>.;5:bx_,!cx_>.;", "c10a10b20", "1b20;0a10;"},
	})
}

func TestP8OneFactForSeveralPatterns(t *testing.T) {
	matchAll(t, []match{
		{"5:a__,a__>.;", "a12", "0a12a12;"}, {"5:a__,a__,a__>.;", "a12", "0a12a12a12;"},
		{"5:a__,a__>.;", "a12a34", "0a12a34;0a34a12;0a34a34;0a12a12;"},
		{"5:axy,ayx>.;", "a11", "0a11a11;"}, {"5:axy,ayx>.;", "a12", ""},
		{"5:axy,azw,x#z>.;", "a12", ""}, {"5:axy,azw,x#z>.;", "a12a34", "0a12a34;0a34a12;"},
		{"5:axy,ayz>.;", "a12a23", "0a12a23;"}, {"5:ax_,b__,a_x>.;", "a11b00", "0a11b00a11;"},
		{"5:a1_,a_2>.;", "a12", "0a12a12;"},
	})
}

func TestP8NegatedPatterns(t *testing.T) {
	matchAll(t, []match{
		{"5:b__,!a__>.;", "b00", "0b00;"}, {"5:b__,!a__>.;", "b00a99", ""}, {"5:b__,!a__>.;", "b00a99a9.", "0b00;"},
		{"5:b__,!a1_>.;", "b00a20", "0b00;"}, {"5:b__,!a1_>.;", "b00a10", ""},
		{"5:b__,!a_1>.;", "b00a10", "0b00;"}, {"5:b__,!a_1>.;", "b00a01", ""},
		{"5:b__,!a12>.;", "b00a12", ""}, {"5:b__,!a12>.;", "b00a13a22", "0b00;"},
		{"5:bxy,!axy>.;", "b12a12", ""}, {"5:bxy,!axy>.;", "b12a13", "0b12;"}, {"5:bxy,!axy>.;", "b12a22", "0b12;"},
		{"5:bx_,!axx>.;", "b10a12b20a22", "0b10;"}, {"5:bx_,!ax_,!cx_>.;", "b10b20b30a10c20", "0b30;"},
		{"5:ax_,!a_x>.;", "a12a21a33", ""}, {"5:ax_,!a_x>.;", "a12a34", "0a34;0a12;"},
		{"5:axy,!axy>.;", "a12a34", ""}, {"5:axy,!ayx>.;", "a12a34a43", "0a12;"},
	})
}

// Wherever they stand, they ask no more and no less.
func TestP8NegatedPatternsAndTestsBetweenPatterns(t *testing.T) {
	matchAll(t, []match{
		{"5:axy,!by_,cxz>.;", "a12c13", "0a12c13;"}, {"5:axy,!by_,cxz>.;", "a12c13b25", ""},
		{"5:axy,!by_,cxz>.;", "a12c13b15", "0a12c13;"}, {"5:ax_,!bx_,bx_>.;", "a10b10", ""},
		{"5:!b__,a__>.;", "a11", "0a11;"}, {"5:!b__,a__>.;", "a11b00", ""},
		{"5:axy,x<y,bxz>.;", "a12a21b10b20", "0a12b10;"}, {"5:1<2,a__>.;", "a11", "0a11;"}, {"5:2<1,a__>.;", "a11", ""},
		{"5:a__,2<1,b__>.;", "a11b11", ""}, {"5:ax_,!bx_,by_,x#y,cyx>.;", "a10b20c21", "0a10b20c21;"},
		{"5:ax_,!bx_,by_,x#y,cyx>.;", "a10b10b20c21", ""}, {"5:ax_,!bx_,by_,x#y,cyx>.;", "a10b20c12", ""},
		{"5:axy,!bx_,czw,z<x,!c_x>.;", "a21c13", "0a21c13;"}, {"5:axy,!bx_,czw,z<x,!c_x>.;", "a21c12", ""},
	})
}

func TestP8Tests(t *testing.T) {
	for left := '0'; left <= '9'; left++ {
		for right := '0'; right <= '9'; right++ {
			for sign, holds := range map[string]bool{"<": left < right, "=": left == right, "#": left != right} {
				fact, want := fmt.Sprintf("a%c%c", left, right), ""
				if holds {
					want = "0" + fact + ";"
				}
				matchAll(t, []match{
					{fmt.Sprintf("5:axy,x%sy>.;", sign), fact, want},
					{fmt.Sprintf("5:azw,%c%sw>.;", left, sign), fact, want},
					{fmt.Sprintf("5:awx,w%s%c>.;", sign, right), fact, want},
					{fmt.Sprintf("5:%c%s%c,a__>.;", left, sign, right), fact, want},
				})
			}
		}
	}
}

func TestP8OrderByWeight(t *testing.T) {
	matchAll(t, []match{
		{"0:a__>.;9:a__>.;5:a__>.;", "a11", "1a11;2a11;0a11;"},
		{"1:a__>.;2:b__>.;", "b11a11", "1b11;0a11;"}, {"1:a__>.;2:b__>.;", "a11b11", "1b11;0a11;"},
		{"2:a__>.;1:b__>.;", "a11b11a22b22", "0a22;0a11;1b22;1b11;"},
		{"5:0=0>.;4:a__>.;", "a11", "0;1a11;"}, {"4:0=0>.;5:a__>.;", "a11", "1a11;0;"},
		{"1:0=0>.;2:0=0>.;3:0=0>.;", "", "2;1;0;"},
	})
}

func TestP8OrderByTheLatestTime(t *testing.T) {
	matchAll(t, []match{
		{"5:a__>.;", "a55a33a77a11", "0a11;0a77;0a33;0a55;"},
		{"5:a__>.;5:b__>.;", "a11b11", "1b11;0a11;"}, {"5:a__>.;5:b__>.;", "b11a11", "0a11;1b11;"},
		{"5:a__,b__>.;", "b11a11b22", "0a11b22;0a11b11;"}, {"5:a__,b__>.;", "a11b11a22", "0a22b11;0a11b11;"},
		{"5:b__,a__>.;", "b11a11b22", "0b22a11;0b11a11;"}, {"5:a__,b__,c__>.;", "a11b99c11b22", "0a11b22c11;0a11b99c11;"},
		{"5:b__>.;5:a__,b__>.;", "b11a11", "1a11b11;0b11;"},
		{"5:a__>.;5:b__>.;", "a11b11a22b22", "1b22;0a22;1b11;0a11;"},
	})
}

func TestP8OrderBehindTheTime(t *testing.T) {
	matchAll(t, []match{
		{"5:a__,b__>.;5:b__>.;", "a11b11", "0a11b11;1b11;"}, {"5:b__>.;5:a__,b__>.;", "a11b11", "0b11;1a11b11;"},
		{"5:a__,b__>.;", "a31a11a21b00", "0a11b00;0a21b00;0a31b00;"},
		{"5:b__,a__>.;", "a31a11a21b00", "0b00a11;0b00a21;0b00a31;"},
		{"5:b__,a__>.;5:a__,b__>.;", "a21a11b00", "0b00a11;0b00a21;1a11b00;1a21b00;"},
		{"5:a__,a__>.;", "a12a34", "0a12a34;0a34a12;0a34a34;0a12a12;"},
		{strings.Repeat("5:a__>.;", 9), "a11", "0a11;1a11;2a11;3a11;4a11;5a11;6a11;7a11;8a11;"},
	})
}

func TestP8OneWithoutFactsComesBehind(t *testing.T) {
	matchAll(t, []match{
		{"5:0=0>.;5:a__>.;", "a11", "1a11;0;"}, {"5:a__>.;5:0=0>.;", "a11", "0a11;1;"},
		{"5:0=0>.;5:!b__>.;", "a11", "0;1;"}, {"5:0=0>.;5:a__>.;5:!b__>.;", "a11a22", "1a22;1a11;0;2;"},
	})
	x := ruled(t, "5:0=0>.;5:a__>.;")
	opens(t, x, 1)
	writes(t, x, 1, "a11")
	commits(t, x, 1, 1)
	opens(t, x, 2)
	matches(t, x, 2, "1a11;0;")
}

func TestP8TimesOfWrites(t *testing.T) {
	matchAll(t, []match{
		{"5:a__>.;", "a11a22a11", "0a11;0a22;"}, {"5:a__>.;", "a11a22a13", "0a13;0a22;"},
		{"5:a__>.;", "a11a22a1.", "0a22;"}, {"5:a__>.;", "a11a22a1.a11", "0a11;0a22;"},
		{"5:a__>.;", "a1.a22a11", "0a11;0a22;"}, {"5:a__>.;", "a11a22b00b0.a3.", "0a22;0a11;"},
	})
	x := ruled(t, "5:a__>.;")
	opens(t, x, 1)
	writes(t, x, 1, strings.Repeat("a11a22", 20000))
	matches(t, x, 1, "0a22;0a11;")
	writes(t, x, 1, "a11")
	matches(t, x, 1, "0a11;0a22;")
	answers(t, "P5: Put", x.Put(1, "a2"), api.ErrFact)
	answers(t, "P5: Put", x.Put(2, "a22"), api.ErrSession)
	answers(t, "P5: Clear", x.Clear(1, "a22"), api.ErrFact)
	matches(t, x, 1, "0a11;0a22;")
}

// Those of one commit have the same time, in whatever order they were written.
func TestP8TimesOfVersions(t *testing.T) {
	x := ruled(t, "5:b__>.;5:a__>.;")
	opens(t, x, 1)
	writes(t, x, 1, "a55a33b00a77")
	matches(t, x, 1, "1a77;0b00;1a33;1a55;")
	commits(t, x, 1, 1)
	opens(t, x, 2)
	matches(t, x, 2, "0b00;1a33;1a55;1a77;")
	writes(t, x, 2, "a99a55")
	commits(t, x, 2, 2)
	opens(t, x, 3)
	matches(t, x, 3, "1a55;1a99;0b00;1a33;1a77;")
	writes(t, x, 3, "a3.b0.a9.")
	commits(t, x, 3, 3)
	opens(t, x, 4)
	matches(t, x, 4, "1a55;1a77;")
	writes(t, x, 4, "b00a33")
	commits(t, x, 4, 4)
	opens(t, x, 5)
	matches(t, x, 5, "0b00;1a33;1a55;1a77;")
}

func TestP8WritesAreLaterThanVersions(t *testing.T) {
	x := ruled(t, "5:a__>.;")
	for i := 1; i <= 50; i++ {
		opens(t, x, i)
		writes(t, x, i, fmt.Sprintf("a%d0", i%5))
		commits(t, x, i, i)
	}
	opens(t, x, 51)
	matches(t, x, 51, "0a00;0a40;0a30;0a20;0a10;")
	writes(t, x, 51, "a10")
	matches(t, x, 51, "0a10;0a00;0a40;0a30;0a20;")
	writes(t, x, 51, "a55a20")
	matches(t, x, 51, "0a20;0a55;0a10;0a00;0a40;0a30;")
	writes(t, x, 51, "a1.a0.")
	matches(t, x, 51, "0a20;0a55;0a40;0a30;")
	writes(t, x, 51, "a00")
	matches(t, x, 51, "0a00;0a20;0a55;0a40;0a30;")
	commits(t, x, 51, 51)
	opens(t, x, 52)
	matches(t, x, 52, "0a00;0a20;0a55;0a40;0a30;")
}

// A session sees its snapshot and its own writes, whatever others do.
func TestP8SessionsAreApart(t *testing.T) {
	x := ruled(t, "5:a__>.;7:!a1_>.;")
	opens(t, x, 1)
	opens(t, x, 2)
	writes(t, x, 1, "a11a22")
	matches(t, x, 1, "0a22;0a11;")
	matches(t, x, 2, "1;")
	writes(t, x, 2, "b00")
	commits(t, x, 1, 1)
	matches(t, x, 2, "1;")
	opens(t, x, 3)
	opens(t, x, 4)
	writes(t, x, 4, "a22")
	matches(t, x, 3, "0a11;0a22;")
	matches(t, x, 4, "0a22;0a11;")
	commits(t, x, 4, 2)
	matches(t, x, 3, "0a11;0a22;")
	opens(t, x, 5)
	matches(t, x, 5, "0a22;0a11;")
	writes(t, x, 3, "a2.")
	matches(t, x, 3, "0a11;")
	conflicts(t, x, 3)
	writes(t, x, 5, "a1.")
	matches(t, x, 5, "1;0a22;")
	answers(t, "P5: Abort", x.Abort(5), api.OK)
	opens(t, x, 6)
	matches(t, x, 6, "0a22;0a11;")
	matches(t, x, 2, "1;")
}

// A session begins anew in the place of one that is open no more.
func TestP8TimesBeginAnew(t *testing.T) {
	x := ruled(t, "5:a__>.;")
	opens(t, x, 1)
	writes(t, x, 1, "a11a22a33")
	answers(t, "P5: Abort", x.Abort(1), api.OK)
	opens(t, x, 2)
	matches(t, x, 2, "")
	writes(t, x, 2, "a33")
	matches(t, x, 2, "0a33;")
	commits(t, x, 2, 1)
	opens(t, x, 3)
	commits(t, x, 3, 0)
}

func TestP8SessionsThatAreNotOpen(t *testing.T) {
	x := ruled(t, "5:0=0>.;")
	opens(t, x, 1)
	for _, n := range append([]int{2, 9}, extremes...) {
		if m, e := x.Matches(n); m != "" || e != api.ErrSession {
			t.Errorf("P8: Matches(%d) = %q, %d", n, m, e)
		}
	}
	matches(t, x, 1, "0;")
	answers(t, "P5: Abort", x.Abort(1), api.OK)
	if m, e := x.Matches(1); m != "" || e != api.ErrSession {
		t.Errorf("P8: Matches of an aborted session = %q, %d", m, e)
	}
}

// All that nine rules of three patterns can match, which is more than all other
// rules can: each is there once, and in the order.
func TestP8AsManyAsThereMayBe(t *testing.T) {
	rules := strings.Repeat("5:a__,a__,a__,!b__,!b__>.;", 9)
	x := ruled(t, rules)
	opens(t, x, 1)
	for _, class := range "acdef" {
		for digit := '0'; digit <= '9'; digit++ {
			writes(t, x, 1, fmt.Sprintf("%c%c%c", class, digit, digit))
		}
	}
	var facts []dated
	for digit := 0; digit < 10; digit++ {
		facts = append(facts, dated{fmt.Sprintf("a%d%d", digit, digit), digit})
	}
	m, _ := x.Matches(1)
	if n := strings.Count(m, ";"); n != 9000 {
		t.Errorf("P8: %d instantiations", n)
	}
	matches(t, x, 1, written(instantiations(rules, facts)))
	writes(t, x, 1, "b00")
	matches(t, x, 1, "")
}

func TestP2MatchesChangesNothing(t *testing.T) {
	x, y := ruled(t, someRules), ruled(t, someRules)
	s, m := &script{state: 5}, newModel(someRules)
	r, n := &script{state: 5}, newModel(someRules)
	for i := 0; i < long; i++ {
		for session := -1; session <= m.last+1; session++ {
			x.Matches(session)
		}
		got, want := play(t, s, x, m, 1), play(t, r, y, n, 1)
		if got[0] != want[0] {
			t.Fatalf("P2: call %d behind Matches = %q, want %q", i, got[0], want[0])
		}
	}
}
