package precept_test

import (
	"fmt"
	"testing"

	"precept/api"
	"precept/precept"
)

// within: an engine of these rules and this room.
func within(t *testing.T, rules string, room int) *precept.Engine {
	t.Helper()
	x, e, _ := precept.New(rules, room)
	if e != api.OK {
		t.Fatalf("P3: New(%q, %d): %d", rules, room, e)
	}
	return x
}

// full: is the commit refused by ErrFull, with the session open as it was, and
// are so many versions kept then?
func full(t *testing.T, x *precept.Engine, session int, kept int) {
	t.Helper()
	view, _ := x.View(session)
	open, _ := x.Matches(session)
	if n, e := x.Commit(session); n != 0 || e != api.ErrFull {
		t.Errorf("P11: Commit(%d) = %d, %d, want ErrFull", session, n, e)
	}
	sees(t, x, session, view)
	matches(t, x, session, open)
	keeps(t, x, kept)
	sweeps(t, x, 0) // the refused commit did one
}

// cellsOf: the first cells, each with its own digit as the value.
func cellsOf(count int) string {
	text := ""
	for i := 0; i < count; i++ {
		text += fmt.Sprintf("%c%d%d", 'a'+i/10, i%10, i%10)
	}
	return text
}

func TestP11Examples(t *testing.T) {
	x := within(t, "", 2)
	commit(t, x, "a11a22")
	keeps(t, x, 2)
	opens(t, x, 2)
	writes(t, x, 2, "a11")
	full(t, x, 2, 2)

	x = within(t, "", 3)
	commit(t, x, "a11a22")
	commit(t, x, "a11")
	keeps(t, x, 3)
	sweeps(t, x, 1)
	keeps(t, x, 2)
}

// At first as many versions as there is room for are taken, and not one more.
func TestP11RoomAndOneMore(t *testing.T) {
	for _, room := range []int{1, 2, 3, 10, 59, 60, 61, 999} {
		for _, count := range []int{1, room - 1, room, room + 1, 60} {
			if count < 1 || count > 60 {
				continue
			}
			x := within(t, "", room)
			opens(t, x, 1)
			writes(t, x, 1, cellsOf(count))
			if count > room {
				full(t, x, 1, 0)
				lastly(t, x, "")
				continue
			}
			commits(t, x, 1, 1)
			keeps(t, x, count)
			lastly(t, x, cellsOf(count))
		}
	}
}

// The versions that are kept and the new ones count together, whether they say
// a value or that the cell is empty.
func TestP11KeptAndNewTogether(t *testing.T) {
	for _, text := range []string{"c00c11", "c0.c1.", "c00c1."} {
		for room := 2; room <= 7; room++ {
			x := within(t, "", room)
			commit(t, x, "a11a22")
			opens(t, x, 2)
			writes(t, x, 2, text)
			if room < 4 {
				full(t, x, 2, 2)
				continue
			}
			commits(t, x, 2, 2)
			keeps(t, x, 4)
			opens(t, x, 3)
			writes(t, x, 3, "d00e11f22")
			dropped := 0
			if text == "c0.c1." {
				dropped = 2
			} else if text == "c00c1." {
				dropped = 1
			}
			if room >= 7 {
				commits(t, x, 3, 3)
				keeps(t, x, 7)
			} else if 4-dropped+3 <= room {
				commits(t, x, 3, 3)
				keeps(t, x, 7-dropped)
			} else {
				full(t, x, 3, 4-dropped)
			}
		}
	}
}

// A cell counts once, however often it was written.
func TestP11CellsCountOnce(t *testing.T) {
	x := within(t, "", 1)
	opens(t, x, 1)
	writes(t, x, 1, "a11a12a1.a13a1.a14")
	commits(t, x, 1, 1)
	keeps(t, x, 1)
	lastly(t, x, "a14")
}

// A value that fills the whole room stays for good, as each session that could
// write to it sees it; a cell that was emptied does not.
func TestP11RoomOfOne(t *testing.T) {
	x := within(t, "", 1)
	for i := 1; i <= 5; i++ {
		opens(t, x, i)
		writes(t, x, i, "b5.")
		commits(t, x, i, i)
		keeps(t, x, 1)
	}
	commit(t, x, "a11")
	keeps(t, x, 1)
	sweeps(t, x, 0)
	for _, text := range []string{"a12", "a1.", "b00", "b0."} {
		session, _ := x.Open()
		writes(t, x, session, text)
		full(t, x, session, 1)
		answers(t, "P7: Abort behind ErrFull", x.Abort(session), api.OK)
		notOpen(t, x, session)
	}
	lastly(t, x, "a11")
}

// While there is room a commit does no sweep, even if one would drop something.
func TestP11NoSweepWhileThereIsRoom(t *testing.T) {
	x := within(t, "", 5)
	for i := 1; i <= 5; i++ {
		commit(t, x, "a1"+string('0'+byte(i)))
		keeps(t, x, i)
	}
	commit(t, x, "a16") // the sweep leaves a15, which the session sees
	keeps(t, x, 2)
	commit(t, x, "b11b22b33")
	keeps(t, x, 5)
	sweeps(t, x, 1)
}

func TestP11RoomByTheSweepAlone(t *testing.T) {
	x := within(t, "", 4)
	commit(t, x, "a11b11")
	commit(t, x, "a12b1.")
	keeps(t, x, 4)
	opens(t, x, 3)
	writes(t, x, 3, "c00c11c22")
	commits(t, x, 3, 3) // of the four a12 is left
	keeps(t, x, 4)
	sweeps(t, x, 0)
	lastly(t, x, "a12c00c11c22")

	x = within(t, "", 4)
	commit(t, x, "a11b11")
	commit(t, x, "a12b1.")
	opens(t, x, 3)
	writes(t, x, 3, "c00c11c22d00")
	full(t, x, 3, 1) // the sweep was done even so
	sees(t, x, 3, "a12c00c11c22d00")
	lastly(t, x, "a12")
}

// The session that commits is open while the sweep is done, and what it sees
// stays; so does what any other open one sees.
func TestP11OldestIsThatOfTheOpenSessions(t *testing.T) {
	for _, c := range []struct{ other, last, kept, dropped int }{{6, 4, 4, 1}, {4, 6, 3, 0}} {
		x := within(t, "", 4)
		commit(t, x, "a11")
		opens(t, x, 2) // at 1
		commit(t, x, "a12")
		opens(t, x, 4) // at 2
		commit(t, x, "a13")
		opens(t, x, 6) // at 3
		for _, session := range []int{2, 4, 6} {
			writes(t, x, session, "b00b11")
			full(t, x, session, 3)
		}
		answers(t, "P5: Abort", x.Abort(c.other), api.OK)
		full(t, x, c.last, 3)
		full(t, x, 2, 3)
		answers(t, "P5: Abort", x.Abort(2), api.OK)
		commits(t, x, c.last, 4)
		keeps(t, x, c.kept)
		sweeps(t, x, c.dropped)
		lastly(t, x, "a13b00b11")
	}
}

func TestP7FullStaysOpenAndCommitsLater(t *testing.T) {
	for _, end := range []string{"abort", "conflict", "nothing"} {
		x := within(t, "", 3)
		commit(t, x, "a11")
		opens(t, x, 2)
		if end == "conflict" {
			writes(t, x, 2, "a1.")
		} else if end == "abort" {
			writes(t, x, 2, "e00")
		}
		commit(t, x, "a12")
		commit(t, x, "a13")
		keeps(t, x, 3)
		opens(t, x, 5)
		writes(t, x, 5, "a14c00")
		full(t, x, 5, 3)
		full(t, x, 5, 3)
		sees(t, x, 2, map[string]string{"abort": "a11e00", "conflict": "", "nothing": "a11"}[end])
		lastly(t, x, "a13")
		switch end {
		case "abort":
			answers(t, "P5: Abort", x.Abort(2), api.OK)
		case "conflict":
			conflicts(t, x, 2)
		case "nothing":
			commits(t, x, 2, 0)
		}
		keeps(t, x, 3)
		sees(t, x, 5, "a14c00")
		commits(t, x, 5, 4) // the number that the refused ones did not take
		keeps(t, x, 3)
		sweeps(t, x, 1)
		lastly(t, x, "a14c00")
	}
}

// Nothing of the session is lost by the refusal: its snapshot, its writes and
// their times, and what it fired.
func TestP7FullLeavesTheSessionAsItWas(t *testing.T) {
	const rules = "5:axy>+bxy;7:bxy,cyz>+dxz;"
	x, y := within(t, rules, 4), within(t, rules, 999)
	for _, one := range []*precept.Engine{x, y} {
		commit(t, one, "a11a22")
		opens(t, one, 2)
		writes(t, one, 2, "a33c13c2.e00")
		runs(t, one, 2, 2, 2, api.Spent)
	}
	full(t, x, 2, 2)
	for _, one := range []*precept.Engine{x, y} {
		sees(t, one, 2, "a11a22a33b11b33c13e00")
		matches(t, one, 2, "1b11c13;0a22;")
		runs(t, one, 2, 1, 1, api.Spent)
		writes(t, one, 2, "a11")
		matches(t, one, 2, "0a11;0a22;")
		runs(t, one, 2, 9, 3, api.Still)
		sees(t, one, 2, "a11a22a33b11b22b33c13d13e00")
	}
	full(t, x, 2, 2)
	commits(t, y, 2, 2)
	answers(t, "P7: Abort behind ErrFull", x.Abort(2), api.OK)
	notOpen(t, x, 2)
	keeps(t, x, 2)
	commit(t, x, "f00f11")
	lastly(t, x, "a11a22f00f11")
}

// A session that was refused holds what it sees, and its place, as others do.
func TestP7FullCountsAsOpen(t *testing.T) {
	x := within(t, "", 3)
	commit(t, x, "a11")
	opens(t, x, 2)
	writes(t, x, 2, "b00b11b22")
	full(t, x, 2, 1)
	for i := 3; i <= 9; i++ {
		opens(t, x, i)
	}
	if n, e := x.Open(); n != 0 || e != api.ErrOpen {
		t.Errorf("P4: Open = %d, %d", n, e)
	}
	for i := 4; i <= 9; i++ {
		answers(t, "P5: Abort", x.Abort(i), api.OK)
	}
	writes(t, x, 3, "a12")
	commits(t, x, 3, 2)
	keeps(t, x, 2)
	sweeps(t, x, 0)
	sees(t, x, 2, "a11b00b11b22")
	answers(t, "P5: Abort", x.Abort(2), api.OK)
	sweeps(t, x, 1)
}

// A session that was refused may be in conflict when it commits once more.
func TestP7FullAndThenAConflict(t *testing.T) {
	x := within(t, "", 3)
	commit(t, x, "a11")
	opens(t, x, 2)
	writes(t, x, 2, "b00b11b22")
	full(t, x, 2, 1)
	commit(t, x, "b2.")
	keeps(t, x, 2)
	conflicts(t, x, 2)
	keeps(t, x, 2)
	sweeps(t, x, 1)
	lastly(t, x, "a11")
}

// The conflict is told first, and no sweep is done for it.
func TestP6ConflictIsToldAheadOfFull(t *testing.T) {
	x := within(t, "", 3)
	commit(t, x, "a11")
	commit(t, x, "a12")
	opens(t, x, 3)
	writes(t, x, 3, "a14b00b11b22")
	commit(t, x, "a13")
	keeps(t, x, 3)
	conflicts(t, x, 3)
	keeps(t, x, 3)
	sweeps(t, x, 2)
	lastly(t, x, "a13")

	x = within(t, "", 1)
	opens(t, x, 1)
	opens(t, x, 2)
	writes(t, x, 1, "a1.")
	writes(t, x, 2, "a11b00")
	commits(t, x, 1, 1)
	keeps(t, x, 1)
	conflicts(t, x, 2)
	keeps(t, x, 1)
	sweeps(t, x, 1)
}

func TestP6NoWritesWhereTheRoomIsFull(t *testing.T) {
	x := within(t, "", 3)
	commit(t, x, "a11")
	commit(t, x, "a12")
	commit(t, x, "a1.")
	opens(t, x, 4)
	keeps(t, x, 3)
	commits(t, x, 4, 0)
	keeps(t, x, 3) // no sweep was done
	for _, session := range append([]int{4, 5}, extremes...) {
		if n, e := x.Commit(session); n != 0 || e != api.ErrSession {
			t.Errorf("P5: Commit(%d) = %d, %d", session, n, e)
		}
	}
	keeps(t, x, 3)
	sweeps(t, x, 3)

	x = within(t, "", 1)
	commit(t, x, "a11")
	opens(t, x, 2)
	opens(t, x, 3)
	writes(t, x, 3, "a1.")
	full(t, x, 3, 1)
	commits(t, x, 2, 0)
	full(t, x, 3, 1)
}

// All the room there may be is filled, and one more finds none but by a sweep.
func TestP11GreatestRoom(t *testing.T) {
	x := roomy(t)
	opens(t, x, 1)
	for i := 1; i <= api.MaxRoom; i++ {
		commit(t, x, fmt.Sprintf("a%d%d", i%10, i%7))
	}
	keeps(t, x, api.MaxRoom)
	session, _ := x.Open()
	writes(t, x, session, "b00")
	full(t, x, session, api.MaxRoom) // session 1 is at the stamp 0
	sees(t, x, 1, "")
	answers(t, "P5: Abort", x.Abort(1), api.OK)
	commits(t, x, session, api.MaxRoom+1)
	keeps(t, x, 11)
}

// Commits go on for long in little room, as each makes its own by a sweep.
func TestP11LittleRoomForLong(t *testing.T) {
	x := within(t, "", 3)
	for i := 1; i <= 5000; i++ {
		opens(t, x, i)
		writes(t, x, i, fmt.Sprintf("a1%d", i%10))
		commits(t, x, i, i)
		if kept := x.Kept(); kept > 3 {
			t.Fatalf("P11: %d versions are kept", kept)
		}
	}
	lastly(t, x, "a10")
}

func TestP11ManyCallsInEachRoom(t *testing.T) {
	seen := map[string]int{}
	for seed := uint32(1); seed <= 120; seed++ {
		m := newModel(someRules)
		m.room = rooms[int(seed)%len(rooms)]
		s := &script{state: seed, few: seed%5 == 0}
		for _, answer := range play(t, s, within(t, someRules, m.room), m, long) {
			seen[answer]++
		}
	}
	for _, e := range []api.Errno{api.ErrConflict, api.ErrFull} {
		if answer := fmt.Sprint(0, e); seen[answer] < 100 {
			t.Errorf("only %d of the error %d: the scripts are too tame", seen[answer], e)
		}
	}
}
