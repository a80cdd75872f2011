package versions

import (
	"testing"

	"precept/cells"
)

// sequences: all sequences of so many commits, each of one of these texts.
func sequences(texts []string, length int) [][]string {
	all := [][]string{nil}
	for ; length > 0; length-- {
		var longer [][]string
		for _, one := range all {
			for _, text := range texts {
				longer = append(longer, append(one[:len(one):len(one)], text))
			}
		}
		all = longer
	}
	return all
}

// has: has the cell a0 the version of this stamp at any stamp of these?
func has(commits []string, version int, oldest int) bool {
	for stamp := oldest; stamp <= len(commits); stamp++ {
		last := 0
		for i := 0; i < stamp; i++ {
			if commits[i][:2] == "a0" {
				last = i + 1
			}
		}
		if last == version {
			return true
		}
	}
	return false
}

// dropped: how many versions of a0 the document's words say are dropped. Those
// of b0 are all emptied: each goes that is not above the oldest stamp.
func dropped(commits []string, oldest int) int {
	count := 0
	for i, text := range commits {
		empty := text[2] == '.'
		if empty && i+1 <= oldest || !empty && !has(commits, i+1, oldest) {
			count++
		}
	}
	return count
}

// Each sequence of six commits is swept at each stamp: what goes is what the
// words say, and the pictures from there on stay.
func TestSweepOfEachSequence(t *testing.T) {
	for _, commits := range sequences([]string{"a01", "a02", "a0.", "b0."}, 6) {
		for oldest := 0; oldest <= len(commits); oldest++ {
			var s Store
			for _, text := range commits {
				s.Commit(writes(text))
			}
			var pictures []string
			for stamp := oldest; stamp <= s.Latest; stamp++ {
				pictures = append(pictures, facts(s.At(stamp)))
			}
			want := dropped(commits, oldest)
			if got := s.Sweep(oldest); got != want {
				t.Fatalf("%v: Sweep(%d) = %d, want %d", commits, oldest, got, want)
			}
			if kept := s.Kept(); kept != len(commits)-want {
				t.Fatalf("%v: behind Sweep(%d) %d are kept", commits, oldest, kept)
			}
			for i, picture := range pictures {
				if got := facts(s.At(oldest + i)); got != picture {
					t.Fatalf("%v: behind Sweep(%d) At(%d) = %q, want %q", commits, oldest, oldest+i, got, picture)
				}
			}
			if again := s.Sweep(oldest); again != 0 {
				t.Fatalf("%v: a second Sweep(%d) = %d", commits, oldest, again)
			}
		}
	}
}

// Sweeps one behind the other, each at a later stamp, drop together what the
// last of them drops alone.
func TestSweepsAddUp(t *testing.T) {
	for _, commits := range sequences([]string{"a01", "a0.", "b0."}, 5) {
		var one, several Store
		sum := 0
		for i, text := range commits {
			one.Commit(writes(text))
			several.Commit(writes(text))
			count := several.Sweep(i / 2)
			sum += count
		}
		sum += several.Sweep(3)
		if got := one.Sweep(3); got != sum || one.Kept() != several.Kept() {
			t.Errorf("%v: one sweep drops %d, several %d", commits, got, sum)
		}
	}
}

func TestKeptIsOfAllCells(t *testing.T) {
	var s Store
	if s.Kept() != 0 || s.Sweep(0) != 0 {
		t.Error("versions are kept at first")
	}
	var all [cells.Count]cells.Write
	for cell := range all {
		all[cell] = cells.Write{Made: true, State: cells.State{Filled: cell%2 == 0}}
	}
	s.Commit(all)
	s.Commit(all)
	if kept := s.Kept(); kept != 2*cells.Count {
		t.Errorf("Kept = %d", kept)
	}
	if n := s.Sweep(1); n != cells.Count/2 {
		t.Errorf("Sweep(1) = %d", n)
	}
	if n := s.Sweep(2); n != cells.Count {
		t.Errorf("Sweep(2) = %d", n)
	}
	if kept := s.Kept(); kept != cells.Count/2 {
		t.Errorf("Kept = %d", kept)
	}
}

func TestConflictsAreToldBehindASweep(t *testing.T) {
	var s Store
	s.Commit(writes("a01"))
	s.Commit(writes("a0."))
	if n := s.Sweep(2); n != 2 {
		t.Errorf("Sweep = %d", n)
	}
	for stamp, want := range []bool{true, true, false} {
		if got := s.Conflicts(writes("a05"), stamp); got != want {
			t.Errorf("Conflicts at %d = %v", stamp, got)
		}
	}
	if n := s.Commit(writes("a05")); n != 3 || facts(s.At(3)) != "a05@3 " || s.Kept() != 1 {
		t.Errorf("behind the sweep: commit %d, facts %q", n, facts(s.At(3)))
	}
}
