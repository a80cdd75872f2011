// Package sessions: a session, what it wrote and what it sees.
package sessions

import "precept/cells"

// What a session did to a cell. To empty a cell is a write, even if the cell
// was empty before, so it is told apart from no write at all.
const (
	untouched = 0
	emptied   = 1
	filled    = 2
)

// write is a session's last write to a cell.
type write struct {
	kind  int
	value int
}

// Session is one session. Sessions are numbered from 1 on: the number 0 says
// that none is open here.
type Session struct {
	Number int
	writes [cells.Count]write
}

// Put writes a value to a cell.
func (s *Session) Put(cell int, value int) {
	s.record(cell, write{kind: filled, value: value})
}

// Clear writes to a cell that it is empty.
func (s *Session) Clear(cell int) {
	s.record(cell, write{kind: emptied})
}

func (s *Session) record(cell int, w write) {
	if cell < 0 || cell >= len(s.writes) {
		return
	}
	s.writes[cell] = w
}

// View writes the facts that the session sees, in the order of their cells.
// There are no versions yet: a cell that the session left untouched is empty.
func (s *Session) View() string {
	text := ""
	for cell := 0; cell < len(s.writes); cell++ {
		last := s.writes[cell]
		if last.kind == filled {
			text += cells.WriteFact(cell, last.value)
		}
	}
	return text
}
