// Package sessions: a session, what it wrote and what it sees.
package sessions

import "precept/cells"

// Session is one session: its number, the stamp that is its snapshot, and its
// last write to each cell. Sessions are numbered from 1 on: the number 0 says
// that none is open here.
type Session struct {
	Number   int
	Snapshot int
	Writes   [cells.Count]cells.Write
}

// Put writes a value to a cell.
func (s *Session) Put(cell int, value int) {
	s.record(cell, cells.State{Filled: true, Value: value})
}

// Clear writes to a cell that it is empty.
func (s *Session) Clear(cell int) {
	s.record(cell, cells.State{})
}

func (s *Session) record(cell int, state cells.State) {
	if cell < 0 || cell >= len(s.Writes) {
		return
	}
	s.Writes[cell] = cells.Write{Made: true, State: state}
}

// HasWrites tells whether the session wrote anything.
func (s *Session) HasWrites() bool {
	for cell := 0; cell < len(s.Writes); cell++ {
		if s.Writes[cell].Made {
			return true
		}
	}
	return false
}

// View writes the facts that the session sees, in the order of their cells.
// What the cells have at its snapshot is handed in.
func (s *Session) View(states [cells.Count]cells.State) string {
	text := ""
	for cell := 0; cell < len(states); cell++ {
		seen := states[cell]
		if s.Writes[cell].Made {
			seen = s.Writes[cell].State
		}
		if seen.Filled {
			text += cells.WriteFact(cell, seen.Value)
		}
	}
	return text
}
