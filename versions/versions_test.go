package versions

import (
	"fmt"
	"testing"

	"precept/cells"
)

// writes: of some facts, one behind the other; a `.` for the value empties.
func writes(text string) [cells.Count]cells.Write {
	var list [cells.Count]cells.Write
	for ; text != ""; text = text[3:] {
		cell, _ := cells.ReadCell(text[:2])
		value, filled := cells.Digit(text[2])
		list[cell] = cells.Write{Made: true, State: cells.State{Filled: filled, Value: value}}
	}
	return list
}

// facts: those of all cells, one behind the other, with their stamps.
func facts(versions [cells.Count]cells.Version) string {
	text := ""
	for cell, version := range versions {
		if version.State.Filled {
			fact := cells.NewFact(cell, version.State.Value, 0)
			text += fmt.Sprintf("%s@%d ", fact.Text(), version.Stamp)
		}
	}
	return text
}

func TestEachStampHasItsPicture(t *testing.T) {
	var s Store
	commits := []string{"a01f99", "a0.b55", "a02", "c1.", "b56f9.", "f90a03"}
	pictures := []string{"", "a01@1 f99@1 ", "b55@2 f99@1 ", "a02@3 b55@2 f99@1 ",
		"a02@3 b55@2 f99@1 ", "a02@3 b56@5 ", "a03@6 b56@5 f90@6 "}
	for i, text := range commits {
		if got := s.Commit(writes(text)); got != i+1 || s.Latest != i+1 {
			t.Errorf("Commit = %d, latest %d, want %d", got, s.Latest, i+1)
		}
		for stamp := 0; stamp <= i+1; stamp++ {
			if got := facts(s.At(stamp)); got != pictures[stamp] {
				t.Errorf("behind %d commits, At(%d) = %q, want %q", i+1, stamp, got, pictures[stamp])
			}
		}
	}
}

func TestConflictsAreAboveTheStamp(t *testing.T) {
	var s Store
	s.Commit(writes("a01f9."))
	s.Commit(writes("b00"))
	s.Commit(writes("b0.c11"))
	last := []struct {
		text  string
		stamp int
	}{{"a05", 1}, {"a0.", 1}, {"f91", 1}, {"b01", 3}, {"c1.", 3}, {"c2.", 0}, {"a0.b11c2.", 1}, {"a0.c11", 3}, {"", 0}}
	for _, c := range last {
		for stamp := 0; stamp <= 3; stamp++ {
			if got := s.Conflicts(writes(c.text), stamp); got != (stamp < c.stamp) {
				t.Errorf("Conflicts(%q, %d) = %v", c.text, stamp, got)
			}
		}
	}
	if s.Latest != 3 || facts(s.At(3)) != "a01@1 c11@3 " {
		t.Error("to ask for conflicts changed the versions")
	}
}
