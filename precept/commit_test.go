package precept_test

import (
	"fmt"
	"testing"

	"precept/api"
	"precept/precept"
)

// roomy: an engine without rules, with all the room there may be.
func roomy(t *testing.T) *precept.Engine {
	t.Helper()
	return ruled(t, "")
}

// ruled: an engine of these rules, with all the room there may be.
func ruled(t *testing.T, rules string) *precept.Engine {
	t.Helper()
	x, e, _ := precept.New(rules, api.MaxRoom)
	if e != api.OK {
		t.Fatalf("P3: New(%q): %d", rules, e)
	}
	return x
}

// writes: some facts, one behind the other; a `.` for the value empties the cell.
func writes(t *testing.T, x *precept.Engine, session int, text string) {
	t.Helper()
	for ; text != ""; text = text[3:] {
		if text[2] == '.' {
			answers(t, "P5: Clear of "+text[:2], x.Clear(session, text[:2]), api.OK)
		} else {
			answers(t, "P5: Put of "+text[:3], x.Put(session, text[:3]), api.OK)
		}
	}
}

// commits: is this the commit's number, and is the session open no more?
func commits(t *testing.T, x *precept.Engine, session int, want int) {
	t.Helper()
	if n, e := x.Commit(session); n != want || e != api.OK {
		t.Errorf("P6: Commit(%d) = %d, %d, want %d", session, n, e, want)
	}
	notOpen(t, x, session)
}

// conflicts: is the commit refused by ErrConflict, and the session open no more?
func conflicts(t *testing.T, x *precept.Engine, session int) {
	t.Helper()
	if n, e := x.Commit(session); n != 0 || e != api.ErrConflict {
		t.Errorf("P6: Commit(%d) = %d, %d, want ErrConflict", session, n, e)
	}
	notOpen(t, x, session)
}

// lastly: are these the facts that a session sees that is opened now?
func lastly(t *testing.T, x *precept.Engine, want string) {
	t.Helper()
	n, e := x.Open()
	answers(t, "P4: Open", e, api.OK)
	sees(t, x, n, want)
	answers(t, "P5: Abort", x.Abort(n), api.OK)
}

func TestP6Example(t *testing.T) {
	for _, text := range []string{"b00", "a10", "a1."} {
		x := roomy(t)
		opens(t, x, 1)
		writes(t, x, 1, "a37a14")
		sees(t, x, 1, "a14a37")
		opens(t, x, 2)
		sees(t, x, 2, "")
		commits(t, x, 1, 1)
		sees(t, x, 2, "")
		opens(t, x, 3)
		sees(t, x, 3, "a14a37")
		writes(t, x, 2, text)
		if text == "b00" {
			commits(t, x, 2, 2)
			lastly(t, x, "a14a37b00")
		} else {
			conflicts(t, x, 2)
			lastly(t, x, "a14a37")
		}
		sees(t, x, 3, "a14a37")
	}
}

func TestP6SessionWithoutWrites(t *testing.T) {
	x := roomy(t)
	opens(t, x, 1)
	opens(t, x, 2)
	opens(t, x, 3)
	commits(t, x, 1, 0)
	writes(t, x, 2, "a11")
	commits(t, x, 2, 1)
	commits(t, x, 3, 0)
	opens(t, x, 4)
	sees(t, x, 4, "a11")
	commits(t, x, 4, 0)
	opens(t, x, 5)
	answers(t, "P5: Put", x.Put(5, "a1x"), api.ErrFact)
	answers(t, "P5: Clear", x.Clear(5, "a"), api.ErrFact)
	commits(t, x, 5, 0)
	opens(t, x, 6)
	writes(t, x, 6, "a12")
	commits(t, x, 6, 2)
	lastly(t, x, "a12")
}

func TestP6CommitsAreNumberedByTheirOwn(t *testing.T) {
	x := roomy(t)
	for i := 1; i <= 8; i++ {
		opens(t, x, i)
		writes(t, x, i, fmt.Sprintf("c%d%d", i, i))
	}
	answers(t, "P5: Abort", x.Abort(5), api.OK)
	for i, session := range []int{8, 1, 4, 3, 7, 2, 6} {
		commits(t, x, session, i+1)
	}
	lastly(t, x, "c11c22c33c44c66c77c88")
	for i := 8; i <= 200; i++ {
		session, e := x.Open()
		answers(t, "P4: Open", e, api.OK)
		writes(t, x, session, "a0"+string('0'+byte(i%10)))
		commits(t, x, session, i)
	}
}

func TestP6VersionSaysWhatWasWrittenLast(t *testing.T) {
	x := roomy(t)
	opens(t, x, 1)
	writes(t, x, 1, "a11a12a13b01b0.c0.c05d0.e1.e15e1.e16f99f9.f98")
	commits(t, x, 1, 1)
	lastly(t, x, "a13c05e16f98")
	opens(t, x, 3)
	writes(t, x, 3, "a1.a10c0.e17e1.f90f91")
	sees(t, x, 3, "a10f91")
	commits(t, x, 3, 2)
	lastly(t, x, "a10f91")
}

func TestP6AllCells(t *testing.T) {
	x := roomy(t)
	all, other := "", ""
	opens(t, x, 1)
	for _, class := range "abcdef" {
		for _, digit := range "0123456789" {
			all += fmt.Sprintf("%c%c%c", class, digit, digit)
			other += fmt.Sprintf("%c%c%c", class, digit, '9'+'0'-digit)
		}
	}
	writes(t, x, 1, all)
	opens(t, x, 2)
	commits(t, x, 1, 1)
	opens(t, x, 3)
	writes(t, x, 3, other)
	commits(t, x, 3, 2)
	opens(t, x, 4)
	for cell := other; cell != ""; cell = cell[3:] {
		writes(t, x, 4, cell[:2]+".")
	}
	opens(t, x, 5)
	commits(t, x, 4, 3)
	sees(t, x, 2, "")
	sees(t, x, 5, other)
	lastly(t, x, "")
}

func TestP6ConflictInEachCell(t *testing.T) {
	for _, class := range "abcdef" {
		for _, digit := range "0123456789" {
			x := roomy(t)
			for i := 1; i <= 3; i++ {
				opens(t, x, i)
			}
			cell := string(class) + string(digit)
			writes(t, x, 1, cell+"5")
			writes(t, x, 2, cell+".")
			all := ""
			for _, b := range "abcdef" {
				if b != class {
					all += fmt.Sprintf("%c%c1", b, digit)
				} else {
					all += fmt.Sprintf("%c%c1", b, '0'+(digit-'0'+1)%10)
				}
			}
			writes(t, x, 3, all)
			commits(t, x, 1, 1)
			conflicts(t, x, 2)
			commits(t, x, 3, 2)
		}
	}
}

// Both an emptied cell and a filled one are versions, for either kind of write.
func TestP6ConflictOfEachKindOfWrite(t *testing.T) {
	kinds := []string{"a15", "a16", "a1.", "a15a1.", "a1.a15"}
	for _, base := range []string{"", "a15", "a1."} {
		for _, first := range kinds {
			for _, second := range kinds {
				x := roomy(t)
				number := 0
				if base != "" {
					opens(t, x, 1)
					writes(t, x, 1, base)
					commits(t, x, 1, 1)
					number = 1
				}
				s, _ := x.Open()
				r, _ := x.Open()
				writes(t, x, s, first)
				writes(t, x, r, "b00"+second+"c00")
				commits(t, x, s, number+1)
				conflicts(t, x, r)
				last, _ := x.Open()
				v, _ := x.View(last)
				if want := map[byte]string{'5': "a15", '6': "a16", '.': ""}[first[len(first)-1]]; v != want {
					t.Errorf("P7: behind %q, %q and the refused %q: %q", base, first, second, v)
				}
			}
		}
	}
}

func TestP6ConflictIsAboveTheSnapshotAlone(t *testing.T) {
	x := roomy(t)
	opens(t, x, 1)
	opens(t, x, 2) // snapshot 0
	writes(t, x, 1, "a11b11")
	commits(t, x, 1, 1)
	opens(t, x, 3) // snapshot 1
	opens(t, x, 4) // snapshot 1
	writes(t, x, 3, "b12")
	commits(t, x, 3, 2)
	opens(t, x, 5) // snapshot 2
	opens(t, x, 6) // snapshot 2
	sees(t, x, 2, "")
	sees(t, x, 4, "a11b11")
	sees(t, x, 5, "a11b12")
	writes(t, x, 2, "a12")
	writes(t, x, 4, "a13b13")
	writes(t, x, 5, "b1.")
	writes(t, x, 6, "a14")
	conflicts(t, x, 2) // a1 has a version of the stamp 1
	conflicts(t, x, 4) // a1 has none above 1, b1 has one
	commits(t, x, 5, 3)
	sees(t, x, 6, "a14b12")
	commits(t, x, 6, 4)
	lastly(t, x, "a14")
}

func TestP6ConflictIsFoundBehindLaterCommits(t *testing.T) {
	x := roomy(t)
	opens(t, x, 1)
	writes(t, x, 1, "a11b22")
	opens(t, x, 2)
	writes(t, x, 2, "a12")
	commits(t, x, 2, 1)
	for i := 3; i <= 20; i++ {
		opens(t, x, i)
		writes(t, x, i, "c0"+string('0'+byte(i%10)))
		commits(t, x, i, i-1)
	}
	sees(t, x, 1, "a11b22")
	conflicts(t, x, 1)
	lastly(t, x, "a12c00")
}

// A session does not clash with what it sees and does not write.
func TestP6NoConflictInCellsThatWereSeenAlone(t *testing.T) {
	x := roomy(t)
	opens(t, x, 1)
	writes(t, x, 1, "a11b11")
	commits(t, x, 1, 1)
	opens(t, x, 2)
	opens(t, x, 3)
	writes(t, x, 2, "a12")
	writes(t, x, 3, "b12")
	sees(t, x, 2, "a12b11")
	sees(t, x, 3, "a11b12")
	commits(t, x, 2, 2)
	sees(t, x, 3, "a11b12")
	commits(t, x, 3, 3)
	lastly(t, x, "a12b12")
}

func TestP4SnapshotIsTheLatestStampAtTheOpening(t *testing.T) {
	x := roomy(t)
	changes := []string{"a11", "b22", "a1.", "a13", "b2.", "c0."}
	pictures := []string{"", "a11", "a11b22", "b22", "a13b22", "a13", "a13"}
	var stay []int
	for i, text := range changes {
		old, _ := x.Open()
		stay = append(stay, old)
		session, _ := x.Open()
		writes(t, x, session, text)
		commits(t, x, session, i+1)
		for k := range stay {
			sees(t, x, stay[k], pictures[k])
		}
		lastly(t, x, pictures[i+1])
	}
	for k := range stay {
		writes(t, x, stay[k], "f00")
	}
	commits(t, x, stay[0], len(changes)+1)
	for k := 1; k < len(stay); k++ {
		sees(t, x, stay[k], pictures[k]+"f00")
		conflicts(t, x, stay[k])
	}
	lastly(t, x, "a13f00")
}

// A session goes on to see its snapshot below what it writes.
func TestP5ViewIsTheSnapshotBelowTheWrites(t *testing.T) {
	x := roomy(t)
	opens(t, x, 1)
	writes(t, x, 1, "a11b22c33")
	commits(t, x, 1, 1)
	opens(t, x, 2)
	opens(t, x, 3)
	writes(t, x, 3, "a19b29c39d49")
	commits(t, x, 3, 2)
	sees(t, x, 2, "a11b22c33")
	writes(t, x, 2, "b2.")
	sees(t, x, 2, "a11c33")
	writes(t, x, 2, "c35e00")
	sees(t, x, 2, "a11c35e00")
	writes(t, x, 2, "c3.")
	sees(t, x, 2, "a11e00")
	writes(t, x, 2, "b22")
	sees(t, x, 2, "a11b22e00")
	lastly(t, x, "a19b29c39d49")
	answers(t, "P5: Abort", x.Abort(2), api.OK)
	lastly(t, x, "a19b29c39d49")
}

// behind: what an engine answers behind a session was ended in some way.
func behind(t *testing.T, end func(x *precept.Engine) api.Errno, want api.Errno) string {
	t.Helper()
	x := roomy(t)
	for i := 1; i <= 8; i++ {
		opens(t, x, i)
	}
	writes(t, x, 1, "a11")
	writes(t, x, 2, "b00a12c00d0.")
	writes(t, x, 3, "b05")
	writes(t, x, 4, "c0.d01")
	commits(t, x, 1, 1)
	answers(t, "P7: the end", end(x), want)
	text := picture(x, 9)
	for session := 3; session <= 10; session++ {
		n, e := x.Commit(session)
		text += fmt.Sprint(n, e, ";")
		n, e = x.Open()
		text += fmt.Sprint(n, e, ";") + picture(x, 20)
	}
	return text
}

func TestP7ConflictIsAsAbort(t *testing.T) {
	aborted := behind(t, func(x *precept.Engine) api.Errno { return x.Abort(2) }, api.OK)
	refused := behind(t, func(x *precept.Engine) api.Errno {
		_, e := x.Commit(2)
		return e
	}, api.ErrConflict)
	if refused != aborted {
		t.Errorf("P7: behind ErrConflict %s, behind Abort %s", refused, aborted)
	}
}

func TestP7ConflictLeavesNothing(t *testing.T) {
	x := roomy(t)
	for i := 1; i <= 8; i++ {
		opens(t, x, i)
	}
	writes(t, x, 1, "a11")
	writes(t, x, 2, "a12b22a0.")
	writes(t, x, 3, "b23a03")
	commits(t, x, 1, 1)
	conflicts(t, x, 2)
	opens(t, x, 9)
	opens(t, x, 10)
	if _, e := x.Open(); e != api.ErrOpen {
		t.Errorf("P4: Open = %d", e)
	}
	sees(t, x, 9, "a11")
	commits(t, x, 3, 2) // b2 and a0 were never committed
	lastly(t, x, "a03a11b23")
	writes(t, x, 10, "a15")
	commits(t, x, 10, 3) // its snapshot is 1
}

func TestP6EngineIsAlone(t *testing.T) {
	x, y := roomy(t), roomy(t)
	opens(t, x, 1)
	opens(t, y, 1)
	writes(t, x, 1, "a11")
	writes(t, y, 1, "a12b00")
	commits(t, x, 1, 1)
	lastly(t, y, "")
	commits(t, y, 1, 1)
	lastly(t, x, "a11")
	lastly(t, y, "a12b00")
}

func TestP6SessionsThatAreNotOpen(t *testing.T) {
	x := roomy(t)
	opens(t, x, 1)
	writes(t, x, 1, "a11")
	for _, n := range append([]int{2, 9}, extremes...) {
		if number, e := x.Commit(n); number != 0 || e != api.ErrSession {
			t.Errorf("P6: Commit(%d) = %d, %d", n, number, e)
		}
	}
	commits(t, x, 1, 1)
	if number, e := x.Commit(1); number != 0 || e != api.ErrSession {
		t.Errorf("P6: Commit of a committed session = %d, %d", number, e)
	}
	lastly(t, x, "a11")
}
