// Package sessions: a session, what it wrote, what it sees, and its runs.
package sessions

import (
	"precept/cells"
	"precept/matching"
)

// Session is one session: its number, the stamp that is its snapshot, how many
// writes it made, the last of them to each cell, and what it fired. Sessions are
// numbered from 1 on: the number 0 says that none is open here.
type Session struct {
	Number   int
	Snapshot int
	Made     int
	Writes   [cells.Count]cells.Write
	Fired    matching.Memory
}

// Put writes a value to a cell.
func (s *Session) Put(cell int, value int) {
	s.record(cell, cells.State{Filled: true, Value: value})
}

// Clear writes to a cell that it is empty.
func (s *Session) Clear(cell int) {
	s.record(cell, cells.State{})
}

// record counts the times of writes on from the snapshot, as a write is later
// than every version that the session sees.
func (s *Session) record(cell int, state cells.State) {
	if cell < 0 || cell >= len(s.Writes) {
		return
	}
	s.Made++
	s.Writes[cell] = cells.Write{Made: true, State: state, Time: s.Snapshot + s.Made}
}

// HasWrites tells whether the session wrote anything.
func (s *Session) HasWrites() bool {
	return s.Made > 0
}

// Written is how many cells the session wrote to.
func (s *Session) Written() int {
	count := 0
	for cell := 0; cell < len(s.Writes); cell++ {
		if s.Writes[cell].Made {
			count++
		}
	}
	return count
}

// Sees is the facts that the session sees, in the order of their cells. The
// versions that the cells have at its snapshot are handed in.
func (s *Session) Sees(versions [cells.Count]cells.Version) []cells.Fact {
	var facts []cells.Fact
	for cell := 0; cell < len(versions); cell++ {
		state := versions[cell].State
		time := versions[cell].Stamp
		if s.Writes[cell].Made {
			state = s.Writes[cell].State
			time = s.Writes[cell].Time
		}
		if state.Filled {
			facts = append(facts, cells.NewFact(cell, state.Value, time))
		}
	}
	return facts
}
