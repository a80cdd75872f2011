package sessions

import (
	"testing"

	"precept/cells"
)

func TestLastWriteIsSeen(t *testing.T) {
	var s Session
	s.Put(59, 9)
	s.Put(0, 1)
	s.Put(0, 2)
	s.Put(31, 0)
	s.Clear(31)
	s.Clear(7)
	s.Put(13, 0)
	if got := s.View(); got != "a02b30f99" {
		t.Errorf("View = %q", got)
	}
}

func TestEmptyingIsAWrite(t *testing.T) {
	var s Session
	s.Clear(7)
	if s.writes[7].kind == untouched {
		t.Error("a cell that was emptied counts as untouched")
	}
	if s.writes[8].kind != untouched {
		t.Error("another cell counts as written")
	}
}

func TestCellsThatAreNoneAreLeftAlone(t *testing.T) {
	var s Session
	for _, cell := range []int{-1, cells.Count, 1 << 62, -1 << 63} {
		s.Put(cell, 5)
		s.Clear(cell)
	}
	if s != (Session{}) {
		t.Error("something was written")
	}
}
