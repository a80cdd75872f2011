package precept_test

import (
	"strings"
	"testing"

	"precept/api"
	"precept/precept"
)

// extremes: numbers that are none of an open session.
var extremes = []int{0, -1, 1 << 31, 1 << 62, 1<<63 - 1, -1 << 63}

// engine: one without rules.
func engine(t *testing.T) *precept.Engine {
	t.Helper()
	x, e, _ := precept.New("", 9)
	if e != api.OK {
		t.Fatalf("P3: New: %d", e)
	}
	return x
}

// opens: is this the number of the next session?
func opens(t *testing.T, x *precept.Engine, want int) {
	t.Helper()
	if n, e := x.Open(); n != want || e != api.OK {
		t.Errorf("P4: Open = %d, %d, want %d", n, e, want)
	}
}

// answers: is it this error?
func answers(t *testing.T, call string, got api.Errno, want api.Errno) {
	t.Helper()
	if got != want {
		t.Errorf("%s = %d, want %d", call, got, want)
	}
}

// sees: are these the facts that the session sees?
func sees(t *testing.T, x *precept.Engine, session int, want string) {
	t.Helper()
	if v, e := x.View(session); v != want || e != api.OK {
		t.Errorf("P5: View(%d) = %q, %d, want %q", session, v, e, want)
	}
}

// notOpen: does every call that names this session answer ErrSession, and
// nothing beside it, whatever else is wrong?
func notOpen(t *testing.T, x *precept.Engine, session int) {
	t.Helper()
	for _, text := range []string{"", "a3", "a37", "x"} {
		answers(t, "P5: Put", x.Put(session, text), api.ErrSession)
		answers(t, "P5: Clear", x.Clear(session, text), api.ErrSession)
	}
	if v, e := x.View(session); v != "" || e != api.ErrSession {
		t.Errorf("P5: View(%d) = %q, %d", session, v, e)
	}
	answers(t, "P5: Abort", x.Abort(session), api.ErrSession)
	if n, e := x.Commit(session); n != 0 || e != api.ErrSession {
		t.Errorf("P5: Commit(%d) = %d, %d", session, n, e)
	}
	if v, e := x.Matches(session); v != "" || e != api.ErrSession {
		t.Errorf("P5: Matches(%d) = %q, %d", session, v, e)
	}
	for _, fuel := range []int{-1, 0, 99, 100} {
		if n, why, e := x.Run(session, fuel); n != 0 || why != 0 || e != api.ErrSession {
			t.Errorf("P5: Run(%d, %d) = %d, %d, %d", session, fuel, n, why, e)
		}
	}
}

func TestP4NumbersAndTheirBound(t *testing.T) {
	x := engine(t)
	for i := 1; i <= api.MaxOpen; i++ {
		opens(t, x, i)
	}
	for i := 0; i < 3; i++ {
		if n, e := x.Open(); n != 0 || e != api.ErrOpen {
			t.Errorf("P4: a ninth Open = %d, %d", n, e)
		}
	}
	answers(t, "P5: Abort", x.Abort(8), api.OK)
	answers(t, "P5: Abort", x.Abort(1), api.OK)
	opens(t, x, 9)
	opens(t, x, 10)
	if _, e := x.Open(); e != api.ErrOpen {
		t.Errorf("P4: Open = %d", e)
	}
	for n := 3; n <= 10; n++ {
		if n != 8 {
			answers(t, "P5: Abort", x.Abort(n), api.OK)
		}
	}
	answers(t, "P5: Abort", x.Abort(2), api.OK)
	opens(t, x, 11)
}

func TestP4NumbersGoOnForLong(t *testing.T) {
	x := engine(t)
	for i := 1; i <= 5000; i++ {
		opens(t, x, i)
		answers(t, "P5: Abort", x.Abort(i), api.OK)
	}
}

func TestP4SessionBeginsWithoutWrites(t *testing.T) {
	x := engine(t)
	for i := 1; i <= 20; i++ {
		opens(t, x, i)
		sees(t, x, i, "")
		answers(t, "P5: Put", x.Put(i, "a37"), api.OK)
		answers(t, "P5: Clear", x.Clear(i, "b1"), api.OK)
		answers(t, "P5: Abort", x.Abort(i), api.OK)
	}
}

func TestP5Example(t *testing.T) {
	x := engine(t)
	opens(t, x, 1)
	answers(t, "P5: Put", x.Put(1, "a37"), api.OK)
	answers(t, "P5: Put", x.Put(1, "a14"), api.OK)
	sees(t, x, 1, "a14a37")
	opens(t, x, 2)
	sees(t, x, 2, "")
	answers(t, "P5: Put", x.Put(1, "a3"), api.ErrFact)
	answers(t, "P5: Put", x.Put(1, "g00"), api.ErrFact)
	answers(t, "P5: Clear", x.Clear(1, "a37"), api.ErrFact)
	answers(t, "P5: Put", x.Put(9, "x"), api.ErrSession)
	sees(t, x, 1, "a14a37")
}

func TestP5AllCells(t *testing.T) {
	x := engine(t)
	opens(t, x, 1)
	all := ""
	for _, class := range "fedcba" {
		for _, digit := range "9876543210" {
			cell := string(class) + string(digit)
			answers(t, "P5: Put", x.Put(1, cell+"0"), api.OK)
			answers(t, "P5: Put", x.Put(1, cell+string(digit)), api.OK)
			all = cell + string(digit) + all
		}
	}
	sees(t, x, 1, all)
	for all != "" {
		answers(t, "P5: Clear", x.Clear(1, all[:2]), api.OK)
		answers(t, "P5: Clear", x.Clear(1, all[:2]), api.OK)
		all = all[3:]
		sees(t, x, 1, all)
	}
}

func TestP5TextsAtEveryByte(t *testing.T) {
	x := engine(t)
	opens(t, x, 1)
	for b := 0; b < 256; b++ {
		c := string([]byte{byte(b)})
		class, digit := api.ErrFact, api.ErrFact
		if strings.Contains("abcdef", c) {
			class = api.OK
		}
		if strings.Contains("0123456789", c) {
			digit = api.OK
		}
		answers(t, "P5: Put of class "+c, x.Put(1, c+"37"), class)
		answers(t, "P5: Put of digit "+c, x.Put(1, "a"+c+"7"), digit)
		answers(t, "P5: Put of value "+c, x.Put(1, "a3"+c), digit)
		answers(t, "P5: Clear of class "+c, x.Clear(1, c+"3"), class)
		answers(t, "P5: Clear of digit "+c, x.Clear(1, "a"+c), digit)
	}
}

func TestP5TextsOfAnyLength(t *testing.T) {
	x := engine(t)
	opens(t, x, 1)
	answers(t, "P5: Put", x.Put(1, "a37"), api.OK)
	long := "a37" + strings.Repeat("a37", 1<<18)
	for _, n := range []int{0, 1, 2, 4, 5, 6, 256, 259, 65539, len(long)} {
		answers(t, "P5: Put", x.Put(1, long[:n]), api.ErrFact)
	}
	for _, n := range []int{0, 1, 3, 4, 258, 65538, len(long)} {
		answers(t, "P5: Clear", x.Clear(1, long[:n]), api.ErrFact)
	}
	sees(t, x, 1, "a37")
}

func TestP5SessionsThatAreNotOpen(t *testing.T) {
	x := engine(t)
	notOpen(t, x, 1)
	for i := 1; i <= api.MaxOpen; i++ {
		opens(t, x, i)
		answers(t, "P5: Put", x.Put(i, "a37"), api.OK)
		notOpen(t, x, i+1)
	}
	answers(t, "P5: Abort", x.Abort(4), api.OK)
	notOpen(t, x, 4)
	for _, n := range extremes {
		notOpen(t, x, n)
	}
	sees(t, x, 3, "a37")
	sees(t, x, 5, "a37")
	opens(t, x, 9)
	notOpen(t, x, 4)
}

func TestP5AbortEndsOneSession(t *testing.T) {
	x := engine(t)
	opens(t, x, 1)
	opens(t, x, 2)
	answers(t, "P5: Put", x.Put(1, "a11"), api.OK)
	answers(t, "P5: Put", x.Put(2, "a12"), api.OK)
	answers(t, "P5: Abort", x.Abort(1), api.OK)
	notOpen(t, x, 1)
	sees(t, x, 2, "a12")
	opens(t, x, 3)
	sees(t, x, 3, "")
}
