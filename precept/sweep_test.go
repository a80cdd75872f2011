package precept_test

import (
	"fmt"
	"strings"
	"testing"

	"precept/api"
	"precept/precept"
)

// keeps: are so many versions kept?
func keeps(t *testing.T, x *precept.Engine, want int) {
	t.Helper()
	if n := x.Kept(); n != want {
		t.Errorf("P10: Kept = %d, want %d", n, want)
	}
}

// sweeps: does a sweep drop so many versions, and a second one none?
func sweeps(t *testing.T, x *precept.Engine, want int) {
	t.Helper()
	kept := x.Kept()
	if n := x.Sweep(); n != want {
		t.Errorf("P10: Sweep = %d, want %d", n, want)
	}
	keeps(t, x, kept-want)
	if n := x.Sweep(); n != 0 {
		t.Errorf("P10: a second Sweep = %d", n)
	}
	keeps(t, x, kept-want)
}

// commit: a session more writes these facts and commits them.
func commit(t *testing.T, x *precept.Engine, text string) {
	t.Helper()
	session, e := x.Open()
	answers(t, "P4: Open", e, api.OK)
	writes(t, x, session, text)
	if _, e := x.Commit(session); e != api.OK {
		t.Errorf("P6: Commit of %q = %d", text, e)
	}
}

func TestP10NoVersions(t *testing.T) {
	x := roomy(t)
	keeps(t, x, 0)
	sweeps(t, x, 0)
	opens(t, x, 1)
	opens(t, x, 2)
	sweeps(t, x, 0)
	writes(t, x, 1, "a11b2.")
	writes(t, x, 2, "a12")
	keeps(t, x, 0)
	sweeps(t, x, 0)
	answers(t, "P5: Abort", x.Abort(1), api.OK)
	sweeps(t, x, 0)
	sees(t, x, 2, "a12")
	opens(t, x, 3)
	commits(t, x, 3, 0)
	keeps(t, x, 0)
	commits(t, x, 2, 1)
	keeps(t, x, 1)
}

func TestP10Examples(t *testing.T) {
	x := roomy(t)
	commit(t, x, "a11a22")
	keeps(t, x, 2)
	commit(t, x, "a11")
	keeps(t, x, 3)
	sweeps(t, x, 1)
	keeps(t, x, 2)
	lastly(t, x, "a11a22")

	x = roomy(t)
	commit(t, x, "a11")
	commit(t, x, "a1.")
	keeps(t, x, 2)
	sweeps(t, x, 2)
	keeps(t, x, 0)
	lastly(t, x, "")
}

// A commit makes a version for each cell, however often that was written, and
// whatever was written to it.
func TestP10KeptCountsTheCellsOfEachCommit(t *testing.T) {
	x := roomy(t)
	commit(t, x, "a11a12a1.a13b0.c01c0.")
	keeps(t, x, 3)
	commit(t, x, "a13")
	keeps(t, x, 4)
	commit(t, x, "b0.b0.b0.")
	keeps(t, x, 5)
	opens(t, x, 4)
	opens(t, x, 5)
	writes(t, x, 4, "d00")
	writes(t, x, 5, "d01e01")
	commits(t, x, 4, 4)
	conflicts(t, x, 5)
	keeps(t, x, 6)
}

func TestP10VersionsAreKeptUntilASweep(t *testing.T) {
	x := roomy(t)
	for i := 1; i <= 300; i++ {
		commit(t, x, "a1"+string('0'+byte(i%10)))
		keeps(t, x, i)
	}
	sweeps(t, x, 299)
	lastly(t, x, "a10")
	keeps(t, x, 1)
	commit(t, x, "a1.")
	keeps(t, x, 2)
	sweeps(t, x, 2)
	commit(t, x, "a15")
	keeps(t, x, 1)
	sweeps(t, x, 0)
	lastly(t, x, "a15")
}

// swept: commits, one behind the other; and how many a sweep drops if a session
// is open at the stamp 0, 1, .., each of them alone; the last number is for none.
type swept struct {
	commits string
	dropped []int
}

func TestP10AroundTheOldestStamp(t *testing.T) {
	for _, c := range []swept{
		{"a11 a12 b00", []int{0, 0, 1, 1, 1}},
		{"a11 b00 a12", []int{0, 0, 0, 1, 1}},
		{"b00 a11 b01", []int{0, 0, 0, 1, 1}},
		{"a11 a12 a13 a14 a15", []int{0, 0, 1, 2, 3, 4, 4}},
		{"a11 a11 a11", []int{0, 0, 1, 2, 2}}, // the same value is a version of its own
		{"a10b10 a11 b11 a12b12", []int{0, 0, 1, 2, 4, 4}},
		{"a1.", []int{0, 1, 1}}, // of a cell that was empty
		{"a1. a1. a1.", []int{0, 1, 2, 3, 3}},
		{"a11 a1.", []int{0, 0, 2, 2}},
		{"a11 a1. b00", []int{0, 0, 2, 2, 2}},
		{"a11 a12 a1. b00", []int{0, 0, 1, 3, 3, 3}},
		{"a11 a12 a1. a14", []int{0, 0, 1, 3, 3, 3}},
		{"a1. a11 a1. a12", []int{0, 1, 1, 3, 3, 3}},
		{"a11 a1. a1. a1.", []int{0, 0, 2, 3, 4, 4}},
		{"a1.b11 b1.a11", []int{0, 1, 3, 3}},
		{"a11f99 f9.a10 f91 a1.f9.", []int{0, 0, 3, 3, 7, 7}},
	} {
		texts := strings.Split(c.commits, " ")
		for held := 0; held <= len(texts)+1; held++ {
			t.Run(fmt.Sprintf("%s, %d", c.commits, held), func(t *testing.T) {
				heldOpen(t, texts, held, c.dropped[held])
			})
		}
	}
}

// heldOpen: some commits, with a session that was opened behind so many of them.
func heldOpen(t *testing.T, texts []string, held int, dropped int) {
	x := roomy(t)
	session, count := 0, 0
	for i := 0; i <= len(texts); i++ {
		if i == held {
			session, _ = x.Open()
		}
		if i < len(texts) {
			commit(t, x, texts[i])
			count += len(texts[i]) / 3
		}
	}
	keeps(t, x, count)
	ahead, _ := x.View(session)
	sweeps(t, x, dropped)
	keeps(t, x, count-dropped)
	if behind, _ := x.View(session); behind != ahead {
		t.Errorf("P12: View = %q, ahead of the sweep %q", behind, ahead)
	}
	if held <= len(texts) {
		answers(t, "P5: Abort", x.Abort(session), api.OK)
	}
	last := factsBehind(texts)
	x.Sweep()
	keeps(t, x, len(last)/3)
	lastly(t, x, last)
}

// factsBehind: the facts behind some commits.
func factsBehind(texts []string) string {
	m := newModel("")
	for _, text := range texts {
		m.openOne()
		for ; text != ""; text = text[3:] {
			fact := strings.Trim(text[:3], ".")
			m.write(m.last, fact, len(fact))
		}
		m.commit(m.last)
	}
	m.openOne()
	return strings.TrimSuffix(m.view(m.last), fmt.Sprint("", api.OK))
}

// Five versions of one cell, and sessions at each choice of the stamps: those
// ahead of the least stamp of them are dropped.
func TestP10OldestOfSeveralSessions(t *testing.T) {
	for chosen := 0; chosen < 1<<6; chosen++ {
		x := roomy(t)
		oldest := 5
		var sessions []int
		for stamp := 0; stamp <= 5; stamp++ {
			session, _ := x.Open()
			sessions = append(sessions, session)
			if stamp < 5 {
				commit(t, x, "a1"+string('1'+byte(stamp)))
			}
		}
		for stamp := 5; stamp >= 0; stamp-- {
			if chosen&(1<<stamp) != 0 {
				oldest = stamp
			} else {
				answers(t, "P5: Abort", x.Abort(sessions[stamp]), api.OK)
			}
		}
		sweeps(t, x, max(oldest-1, 0))
		for stamp := range sessions {
			if chosen&(1<<stamp) != 0 {
				sees(t, x, sessions[stamp], []string{"", "a11", "a12", "a13", "a14", "a15"}[stamp])
			}
		}
		lastly(t, x, "a15")
	}
}

// The session with the least snapshot is neither the first nor the last that
// the engine has, as later ones took the places of those that ended.
func TestP10OldestSessionAmongLaterOnes(t *testing.T) {
	for stays := 1; stays <= 8; stays++ {
		x := roomy(t)
		commit(t, x, "a10")
		for i := 2; i <= 9; i++ {
			opens(t, x, i)
		}
		for i := 2; i <= 9; i++ {
			if i == stays+1 {
				continue
			}
			writes(t, x, i, "b00")
			answers(t, "P5: Abort", x.Abort(i), api.OK)
			commit(t, x, "a1"+string('0'+byte(i)))
			if _, e := x.Open(); e != api.OK {
				t.Errorf("P4: Open = %d", e)
			}
		}
		keeps(t, x, 8)
		sweeps(t, x, 0)
		sees(t, x, stays+1, "a10")
		answers(t, "P5: Abort", x.Abort(stays+1), api.OK)
		sweeps(t, x, 1)
	}
}

// Sessions end in each way, and hold nothing more from then on.
func TestP10EndedSessionsHoldNothing(t *testing.T) {
	for _, end := range []string{"abort", "conflict", "commit", "nothing"} {
		x := roomy(t)
		commit(t, x, "a11")
		opens(t, x, 2)
		commit(t, x, "a12")
		sweeps(t, x, 0)
		switch end {
		case "abort":
			writes(t, x, 2, "b00")
			answers(t, "P5: Abort", x.Abort(2), api.OK)
			sweeps(t, x, 1)
		case "conflict":
			writes(t, x, 2, "a1.b00")
			conflicts(t, x, 2)
			sweeps(t, x, 1)
		case "commit":
			writes(t, x, 2, "b0.")
			commits(t, x, 2, 3)
			sweeps(t, x, 2)
		case "nothing":
			commits(t, x, 2, 0)
			sweeps(t, x, 1)
		}
		keeps(t, x, 1)
		lastly(t, x, "a12")
	}
}

// What is written is no version: it is held by its session alone.
func TestP10SweepLeavesSessionsAlone(t *testing.T) {
	x := ruled(t, "5:axy,!c__>+bxy;3:cxy>.;")
	commit(t, x, "a11a22")
	opens(t, x, 2)
	opens(t, x, 3)
	writes(t, x, 2, "a33a2.")
	runs(t, x, 2, 1, 1, api.Spent)
	commit(t, x, "a1.c55")
	ahead := picture(x, 5)
	sweeps(t, x, 0)
	matches(t, x, 2, "0a11;")
	matches(t, x, 3, "0a11;0a22;")
	if behind := picture(x, 5); behind != ahead {
		t.Errorf("P12: %s, ahead of the sweep %s", behind, ahead)
	}
	runs(t, x, 2, 9, 1, api.Still)
	answers(t, "P5: Abort", x.Abort(3), api.OK)
	sweeps(t, x, 0)
	commits(t, x, 2, 3)
	keeps(t, x, 8)
	sweeps(t, x, 4)
	lastly(t, x, "a33b11b33c55")
}

// A conflict is told behind sweeps too.
func TestP6ConflictBehindSweeps(t *testing.T) {
	for _, text := range []string{"a15", "a1."} {
		x := roomy(t)
		commit(t, x, "a11")
		opens(t, x, 2)
		writes(t, x, 2, "b00a16")
		commit(t, x, "a12")
		x.Sweep()
		commit(t, x, text)
		commit(t, x, "c0.")
		x.Sweep()
		conflicts(t, x, 2)
		x.Sweep()
		opens(t, x, 6)
		writes(t, x, 6, "a17c00")
		x.Sweep()
		commits(t, x, 6, 5)
		lastly(t, x, "a17c00")
	}
}

func TestP2KeptChangesNothing(t *testing.T) {
	x, y := ruled(t, someRules), ruled(t, someRules)
	s, m := &script{state: 9}, newModel(someRules)
	for i := 0; i < long; i++ {
		x.Kept()
		x.Kept()
		c := s.next(m.last)
		c.asked(m)
		if got, want := c.of(x), c.of(y); got != want {
			t.Fatalf("P2: call %d, %.60v behind Kept = %q, want %q", i, c, got, want)
		}
	}
}

// rooms: to play scripts in, from the least to the greatest.
var rooms = []int{1, 2, 3, 4, 6, 9, 14, 25, 60, 61, 130, api.MaxRoom}

// The same calls without sweeps, with some and with one behind each of them:
// the others answer the same.
func TestP12SweepsChangeNoOtherAnswer(t *testing.T) {
	for seed := uint32(1); seed <= 120; seed++ {
		room := rooms[int(seed)%len(rooms)]
		s := &script{state: seed, few: seed%3 == 0}
		m, laid := newModel(someRules), &script{state: seed + 1000}
		m.room = room
		without, some, all := within(t, someRules, room), within(t, someRules, room), within(t, someRules, room)
		for i := 0; i < long/2; i++ {
			c := s.next(m.last)
			if c.name == "Sweep" {
				continue
			}
			want := c.asked(m)
			for k, x := range []*precept.Engine{without, some, all} {
				if got := c.of(x); got != want {
					t.Fatalf("P12: seed %d, room %d, call %d, %.60v of engine %d = %q, want %q", seed, room, i, c, k, got, want)
				}
			}
			all.Sweep()
			if laid.pick(5) == 0 {
				some.Sweep()
			}
		}
		if without.Kept() < some.Kept() || some.Kept() < all.Kept() {
			t.Errorf("P10: %d, %d and %d are kept", without.Kept(), some.Kept(), all.Kept())
		}
	}
}

func TestP12AsManyVersionsAsFacts(t *testing.T) {
	facts := 0
	for seed := uint32(1); seed <= 120; seed++ {
		room := rooms[int(seed)%len(rooms)]
		s, m := &script{state: seed}, newModel(someRules)
		m.room = room
		x := within(t, someRules, room)
		for i := 0; i < 5; i++ {
			play(t, s, x, m, 100)
			for session := range m.open {
				answers(t, "P5: Abort", x.Abort(session), api.OK)
			}
			clear(m.open)
			x.Sweep()
			m.sweep()
			kept := x.Kept()
			m.openOne()
			session, _ := x.Open()
			v, _ := x.View(session)
			if len(v) != 3*kept {
				t.Fatalf("P12: %d versions are kept, the facts are %s", kept, v)
			}
			facts += kept
		}
	}
	if facts < 1500 {
		t.Errorf("only %d facts: the scripts are too tame", facts)
	}
}
