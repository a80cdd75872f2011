// Package precept: rules over facts, for many sessions that each see a picture of their own: see DOC.md.
package precept

import (
	"precept/api"
	"precept/cells"
	"precept/matching"
	"precept/ruleset"
	"precept/sessions"
	"precept/versions"
)

// Engine is the rules, the versions of all cells, and the sessions.
type Engine struct {
	rules    []ruleset.Rule
	room     int
	opened   int // the number of the session that was opened last
	sessions [api.MaxOpen]sessions.Session
	versions versions.Store
}

// New makes an engine (P3).
func New(rules string, room int) (*Engine, api.Errno, int) {
	read, e, place := ruleset.Read(rules)
	if e != api.OK {
		return nil, e, place
	}
	if room < 1 || room > api.MaxRoom {
		return nil, api.ErrRoom, 0
	}
	return &Engine{rules: read, room: room}, api.OK, 0
}

// find is the open session of a number, or nil. A place where none is open
// has the number 0, which must not be found.
func (x *Engine) find(number int) *sessions.Session {
	if number < 1 {
		return nil
	}
	return x.numbered(number)
}

// numbered is the first place of this number, or nil.
func (x *Engine) numbered(number int) *sessions.Session {
	for i := 0; i < len(x.sessions); i++ {
		if x.sessions[i].Number == number {
			return &x.sessions[i]
		}
	}
	return nil
}

// Open opens a session (P4).
func (x *Engine) Open() (int, api.Errno) {
	place := x.numbered(0)
	if place == nil {
		return 0, api.ErrOpen
	}
	x.opened++
	*place = sessions.Session{Number: x.opened, Snapshot: x.versions.Latest}
	return x.opened, api.OK
}

// Put writes a fact, for a session (P5).
func (x *Engine) Put(session int, fact string) api.Errno {
	s := x.find(session)
	if s == nil {
		return api.ErrSession
	}
	cell, value, ok := cells.ReadFact(fact)
	if !ok {
		return api.ErrFact
	}
	s.Put(cell, value)
	return api.OK
}

// Clear empties a cell, for a session (P5).
func (x *Engine) Clear(session int, cell string) api.Errno {
	s := x.find(session)
	if s == nil {
		return api.ErrSession
	}
	number, ok := cells.ReadCell(cell)
	if !ok {
		return api.ErrFact
	}
	s.Clear(number)
	return api.OK
}

// View tells the facts that a session sees (P5).
func (x *Engine) View(session int) (string, api.Errno) {
	s := x.find(session)
	if s == nil {
		return "", api.ErrSession
	}
	facts := x.seen(s)
	text := ""
	for _, fact := range facts {
		text += fact.Text()
	}
	return text, api.OK
}

// seen is the facts that a session sees.
func (x *Engine) seen(s *sessions.Session) []cells.Fact {
	versions := x.versions.At(s.Snapshot)
	return s.Sees(versions)
}

// Abort ends a session (P5).
func (x *Engine) Abort(session int) api.Errno {
	s := x.find(session)
	if s == nil {
		return api.ErrSession
	}
	*s = sessions.Session{}
	return api.OK
}

// Commit ends a session and makes its writes everybody's (P6, P7, P11). Only
// without room does the session stay open.
func (x *Engine) Commit(session int) (int, api.Errno) {
	s := x.find(session)
	if s == nil {
		return 0, api.ErrSession
	}
	if !s.HasWrites() {
		*s = sessions.Session{}
		return 0, api.OK
	}
	if x.versions.Conflicts(s.Writes, s.Snapshot) {
		*s = sessions.Session{}
		return 0, api.ErrConflict
	}
	written := s.Written()
	if !x.hasRoom(written) {
		return 0, api.ErrFull
	}
	number := x.versions.Commit(s.Writes)
	*s = sessions.Session{}
	return number, api.OK
}

// hasRoom tells whether there is room for so many versions more. It sweeps only
// if there is none otherwise, as a sweep changes what Kept answers.
func (x *Engine) hasRoom(more int) bool {
	kept := x.versions.Kept()
	if kept+more <= x.room {
		return true
	}
	dropped := x.Sweep()
	return kept-dropped+more <= x.room
}

// Matches tells the open instantiations (P8).
func (x *Engine) Matches(session int) (string, api.Errno) {
	s := x.find(session)
	if s == nil {
		return "", api.ErrSession
	}
	facts := x.seen(s)
	open := matching.Open(x.rules, facts, &s.Fired)
	ordered := matching.Ordered(open)
	return matching.Write(ordered), api.OK
}

// Run fires instantiations (P9).
func (x *Engine) Run(session int, fuel int) (int, int, api.Errno) {
	s := x.find(session)
	if s == nil {
		return 0, 0, api.ErrSession
	}
	if fuel < 0 || fuel > api.MaxFuel {
		return 0, 0, api.ErrFuel
	}
	versions := x.versions.At(s.Snapshot)
	fired, why := s.Run(x.rules, versions, fuel)
	return fired, why, api.OK
}

// Kept tells how many versions are kept (P10).
func (x *Engine) Kept() int {
	return x.versions.Kept()
}

// Sweep drops the versions that nobody can see (P10).
func (x *Engine) Sweep() int {
	oldest := x.oldest()
	return x.versions.Sweep(oldest)
}

// oldest is the least snapshot of the open sessions, or the latest stamp.
func (x *Engine) oldest() int {
	oldest := x.versions.Latest
	for i := 0; i < len(x.sessions); i++ {
		isOpen := x.sessions[i].Number > 0
		if isOpen && x.sessions[i].Snapshot < oldest {
			oldest = x.sessions[i].Snapshot
		}
	}
	return oldest
}
