// Package versions: what the commits wrote to the cells.
package versions

import "precept/cells"

// version is what one commit wrote to a cell.
type version struct {
	stamp int
	state cells.State
}

// history is the versions of one cell, in the order of their stamps. The stamp
// of the last one stands apart, as it counts even if the version is not kept.
type history struct {
	last int
	kept []version
}

// Store is the versions of all cells. Latest is the stamp of the last commit.
type Store struct {
	Latest    int
	histories [cells.Count]history
}

// at is what the cell has at a stamp.
func (h *history) at(stamp int) cells.State {
	for i := len(h.kept) - 1; i >= 0; i-- {
		if h.kept[i].stamp <= stamp {
			return h.kept[i].state
		}
	}
	return cells.State{}
}

// At is what all cells have at a stamp.
func (s *Store) At(stamp int) [cells.Count]cells.State {
	var states [cells.Count]cells.State
	for cell := 0; cell < len(states); cell++ {
		states[cell] = s.histories[cell].at(stamp)
	}
	return states
}

// Conflicts tells whether a cell that was written has a version above a stamp.
func (s *Store) Conflicts(writes [cells.Count]cells.Write, stamp int) bool {
	for cell := 0; cell < len(writes); cell++ {
		if writes[cell].Made && s.histories[cell].last > stamp {
			return true
		}
	}
	return false
}

// Commit makes a version of each write; the answer is the commit's number.
func (s *Store) Commit(writes [cells.Count]cells.Write) int {
	s.Latest++
	for cell := 0; cell < len(writes); cell++ {
		if writes[cell].Made {
			s.histories[cell].add(version{stamp: s.Latest, state: writes[cell].State})
		}
	}
	return s.Latest
}

func (h *history) add(v version) {
	h.last = v.stamp
	h.kept = append(h.kept, v)
}
