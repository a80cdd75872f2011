// Package versions: what the commits wrote to the cells.
package versions

import "precept/cells"

// history is the versions of one cell, in the order of their stamps. The stamp
// of the last one stands apart, as it counts even if the version is not kept.
type history struct {
	last int
	kept []cells.Version
}

// Store is the versions of all cells. Latest is the stamp of the last commit.
type Store struct {
	Latest    int
	histories [cells.Count]history
}

// at is the version that the cell has at a stamp.
func (h *history) at(stamp int) cells.Version {
	for i := len(h.kept) - 1; i >= 0; i-- {
		if h.kept[i].Stamp <= stamp {
			return h.kept[i]
		}
	}
	return cells.Version{}
}

// At is the versions that all cells have at a stamp.
func (s *Store) At(stamp int) [cells.Count]cells.Version {
	var versions [cells.Count]cells.Version
	for cell := 0; cell < len(versions); cell++ {
		versions[cell] = s.histories[cell].at(stamp)
	}
	return versions
}

// Conflicts tells whether a cell that was written has a version above a stamp.
func (s *Store) Conflicts(writes [cells.Count]cells.Write, stamp int) bool {
	for cell := 0; cell < len(writes); cell++ {
		if writes[cell].Made && s.histories[cell].last > stamp {
			return true
		}
	}
	return false
}

// Commit makes a version of each write; the answer is the commit's number.
func (s *Store) Commit(writes [cells.Count]cells.Write) int {
	s.Latest++
	for cell := 0; cell < len(writes); cell++ {
		if writes[cell].Made {
			s.histories[cell].add(cells.Version{Stamp: s.Latest, State: writes[cell].State})
		}
	}
	return s.Latest
}

func (h *history) add(version cells.Version) {
	h.last = version.Stamp
	h.kept = append(h.kept, version)
}
