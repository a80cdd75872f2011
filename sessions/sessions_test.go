package sessions

import (
	"testing"

	"precept/cells"
)

func TestLastWriteIsSeen(t *testing.T) {
	var s Session
	s.Put(59, 9)
	s.Put(0, 1)
	s.Put(0, 2)
	s.Put(31, 0)
	s.Clear(31)
	s.Clear(7)
	s.Put(13, 0)
	if got := s.View([cells.Count]cells.State{}); got != "a02b30f99" {
		t.Errorf("View = %q", got)
	}
}

func TestWritesHideTheSnapshot(t *testing.T) {
	var s Session
	var states [cells.Count]cells.State
	for _, cell := range []int{0, 7, 31, 58} {
		states[cell] = cells.State{Filled: true, Value: 4}
	}
	if got := s.View(states); got != "a04a74d14f84" {
		t.Errorf("View = %q", got)
	}
	s.Put(0, 5)
	s.Clear(7)
	s.Clear(8)
	s.Put(59, 0)
	if got := s.View(states); got != "a05d14f84f90" {
		t.Errorf("View = %q", got)
	}
	s.Put(7, 4)
	s.Clear(0)
	if got := s.View(states); got != "a74d14f84f90" {
		t.Errorf("View = %q", got)
	}
}

func TestEmptyingIsAWrite(t *testing.T) {
	for _, cell := range []int{0, 7, cells.Count - 1} {
		var s Session
		if s.HasWrites() {
			t.Error("a session has writes at first")
		}
		s.Clear(cell)
		if !s.HasWrites() {
			t.Errorf("that cell %d was emptied is no write", cell)
		}
		for i := range s.Writes {
			if s.Writes[i].Made != (i == cell) {
				t.Errorf("cell %d was emptied: cell %d counts wrong", cell, i)
			}
		}
	}
}

func TestCellsThatAreNoneAreLeftAlone(t *testing.T) {
	var s Session
	for _, cell := range []int{-1, cells.Count, 1 << 62, -1 << 63} {
		s.Put(cell, 5)
		s.Clear(cell)
	}
	if s != (Session{}) {
		t.Error("something was written")
	}
}
