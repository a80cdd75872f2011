package sessions

import (
	"fmt"
	"testing"

	"precept/cells"
)

// sees: the facts, each with its time.
func sees(s *Session, versions [cells.Count]cells.Version) string {
	text := ""
	for _, fact := range s.Sees(versions) {
		text += fmt.Sprintf("%s@%d ", fact.Text(), fact.Time)
	}
	return text
}

func TestLastWriteIsSeen(t *testing.T) {
	var s Session
	s.Put(59, 9)
	s.Put(0, 1)
	s.Put(0, 2)
	s.Put(31, 0)
	s.Clear(31)
	s.Clear(7)
	s.Put(13, 0)
	if got := sees(&s, [cells.Count]cells.Version{}); got != "a02@3 b30@7 f99@1 " {
		t.Errorf("Sees = %q", got)
	}
}

func TestWritesHideTheSnapshot(t *testing.T) {
	s := Session{Snapshot: 6}
	var versions [cells.Count]cells.Version
	for i, cell := range []int{0, 7, 31, 58} {
		versions[cell] = cells.Version{Stamp: 3 + i, State: cells.State{Filled: true, Value: 4}}
	}
	versions[9] = cells.Version{Stamp: 2}
	if got := sees(&s, versions); got != "a04@3 a74@4 d14@5 f84@6 " {
		t.Errorf("Sees = %q", got)
	}
	s.Put(0, 5)
	s.Clear(7)
	s.Clear(8)
	s.Put(59, 0)
	if got := sees(&s, versions); got != "a05@7 d14@5 f84@6 f90@10 " {
		t.Errorf("Sees = %q", got)
	}
	s.Put(7, 4)
	s.Clear(0)
	s.Put(58, 4)
	if got := sees(&s, versions); got != "a74@11 d14@5 f84@13 f90@10 " {
		t.Errorf("Sees = %q", got)
	}
}

func TestEmptyingIsAWrite(t *testing.T) {
	for _, cell := range []int{0, 7, cells.Count - 1} {
		var s Session
		if s.HasWrites() {
			t.Error("a session has writes at first")
		}
		s.Clear(cell)
		if !s.HasWrites() {
			t.Errorf("that cell %d was emptied is no write", cell)
		}
		for i := range s.Writes {
			if s.Writes[i].Made != (i == cell) {
				t.Errorf("cell %d was emptied: cell %d counts wrong", cell, i)
			}
		}
	}
}

func TestWrittenCountsEachCellOnce(t *testing.T) {
	var s Session
	if n := s.Written(); n != 0 {
		t.Errorf("Written = %d at first", n)
	}
	for cell := 0; cell < cells.Count; cell++ {
		s.Put(cell, 5)
		s.Clear(cell)
		if cell%2 == 0 {
			s.Put(cell, 5)
		}
		if n := s.Written(); n != cell+1 {
			t.Errorf("Written = %d, want %d", n, cell+1)
		}
	}
}

func TestCellsThatAreNoneAreLeftAlone(t *testing.T) {
	var s Session
	for _, cell := range []int{-1, cells.Count, 1 << 62, -1 << 63} {
		s.Put(cell, 5)
		s.Clear(cell)
	}
	if s.HasWrites() || s.Writes != [cells.Count]cells.Write{} {
		t.Error("something was written")
	}
}
