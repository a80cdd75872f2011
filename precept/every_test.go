package precept_test

import (
	"fmt"
	"maps"
	"slices"
	"strings"
	"testing"

	"precept/api"
	"precept/precept"
)

// script: calls by a short rule, the same each time for the same seed. They may
// be mostly of the last sessions, and of few cells and values, so that these go
// with each other.
type script struct {
	state uint32
	few   bool
}

func (s *script) pick(n int) int {
	s.state = s.state*1664525 + 1013904223
	return int(s.state>>8) % n
}

// text: mostly a fact or a cell, sometimes neither.
func (s *script) text(length int) string {
	cell := string("abcdef"[s.pick(6)]) + string("0123456789"[s.pick(10)])
	fact := cell + string("0123456789"[s.pick(10)])
	if s.few {
		fact = string("aab"[s.pick(3)]) + string("0123"[s.pick(4)]) + string("012"[s.pick(3)])
	}
	if s.pick(8) == 0 {
		return []string{"", "a", "g00", "a3x", "a370", "\xff\xff", strings.Repeat("a", 5000)}[s.pick(7)]
	}
	return fact[:length]
}

// model: what the document says of sessions and versions, with all of Go.
type model struct {
	rules   string
	room    int
	last    int
	open    map[int]*opened
	commits []map[string]string // the first one has the stamp 1
	kept    map[version]bool
}

// version: of a cell, made by the commit of this number.
type version struct {
	stamp int
	cell  string
}

// opened: an open session. A cell that was emptied has the text "".
type opened struct {
	snapshot int
	writes   map[string]string
	order    []string        // the cells that were written, one behind the other
	fired    map[string]bool // instantiations, with the times of their facts
}

// dated: a fact, and its time.
type dated struct {
	fact string
	time int
}

func (m *model) openOne() string {
	if len(m.open) >= 8 {
		return fmt.Sprint(0, api.ErrOpen)
	}
	m.last++
	m.open[m.last] = &opened{snapshot: len(m.commits), writes: map[string]string{}, fired: map[string]bool{}}
	return fmt.Sprint(m.last, api.OK)
}

func (m *model) write(session int, text string, length int) string {
	o, ok := m.open[session]
	if !ok {
		return fmt.Sprint(api.ErrSession)
	}
	if len(text) != length || text[0] < 'a' || text[0] > 'f' || strings.Trim(text[1:], "0123456789") != "" {
		return fmt.Sprint(api.ErrFact)
	}
	o.writes[text[:2]] = text[2:]
	o.order = append(o.order, text[:2])
	return fmt.Sprint(api.OK)
}

// sees: the facts that a session sees, in the order of their cells. The times
// of writes are counted from far above all stamps.
func (m *model) sees(o *opened) []dated {
	values, times := map[string]string{}, map[string]int{}
	for i, commit := range m.commits[:o.snapshot] {
		for cell, value := range commit {
			values[cell], times[cell] = value, i+1
		}
	}
	maps.Copy(values, o.writes)
	for i, cell := range o.order {
		times[cell] = 1000000 + i
	}
	var list []dated
	for _, cell := range slices.Sorted(maps.Keys(values)) {
		if values[cell] != "" {
			list = append(list, dated{cell + values[cell], times[cell]})
		}
	}
	return list
}

func (m *model) view(session int) string {
	o, ok := m.open[session]
	if !ok {
		return fmt.Sprint("", api.ErrSession)
	}
	text := ""
	for _, d := range m.sees(o) {
		text += d.fact
	}
	return fmt.Sprint(text, api.OK)
}

func (m *model) matches(session int) string {
	o, ok := m.open[session]
	if !ok {
		return fmt.Sprint("", api.ErrSession)
	}
	return fmt.Sprint(written(m.unfired(o)), api.OK)
}

// unfired: the open instantiations, in their order.
func (m *model) unfired(o *opened) []found {
	all := instantiations(m.rules, m.sees(o))
	return slices.DeleteFunc(all, func(f found) bool { return o.fired[f.text+f.times] })
}

func (m *model) run(session, fuel int) string {
	o, ok := m.open[session]
	if !ok {
		return fmt.Sprint(0, 0, api.ErrSession)
	}
	if fuel < 0 || fuel > 99 {
		return fmt.Sprint(0, 0, api.ErrFuel)
	}
	for fired := 0; ; fired++ {
		list := m.unfired(o)
		if len(list) == 0 {
			return fmt.Sprint(fired, 1, api.OK)
		}
		if fired == fuel {
			return fmt.Sprint(fired, 2, api.OK)
		}
		texts, halts, right := list[0].effects()
		if !right {
			return fmt.Sprint(fired, 4, api.OK)
		}
		o.fired[list[0].text+list[0].times] = true
		for _, text := range texts {
			m.write(session, text, len(text))
		}
		if halts {
			return fmt.Sprint(fired+1, 3, api.OK)
		}
	}
}

func (m *model) abort(session int) string {
	if _, ok := m.open[session]; !ok {
		return fmt.Sprint(api.ErrSession)
	}
	delete(m.open, session)
	return fmt.Sprint(api.OK)
}

func (m *model) commit(session int) string {
	o, ok := m.open[session]
	if !ok {
		return fmt.Sprint(0, api.ErrSession)
	}
	if len(o.writes) == 0 {
		delete(m.open, session)
		return fmt.Sprint(0, api.OK)
	}
	for _, commit := range m.commits[o.snapshot:] {
		for cell := range o.writes {
			if _, ok := commit[cell]; ok {
				delete(m.open, session)
				return fmt.Sprint(0, api.ErrConflict)
			}
		}
	}
	if len(m.kept)+len(o.writes) > m.room {
		m.sweep()
	}
	if len(m.kept)+len(o.writes) > m.room {
		return fmt.Sprint(0, api.ErrFull)
	}
	delete(m.open, session)
	m.commits = append(m.commits, o.writes)
	for cell := range o.writes {
		m.kept[version{len(m.commits), cell}] = true
	}
	return fmt.Sprint(len(m.commits), api.OK)
}

func (m *model) sweep() string {
	oldest := len(m.commits)
	for _, o := range m.open {
		oldest = min(oldest, o.snapshot)
	}
	dropped := 0
	for v := range m.kept {
		empty := m.commits[v.stamp-1][v.cell] == ""
		if empty && v.stamp <= oldest || !empty && m.until(v) < oldest {
			delete(m.kept, v)
			dropped++
		}
	}
	return fmt.Sprint(dropped)
}

// until: the last stamp at which the cell has this version.
func (m *model) until(v version) int {
	for stamp := v.stamp + 1; stamp <= len(m.commits); stamp++ {
		if _, ok := m.commits[stamp-1][v.cell]; ok {
			return stamp - 1
		}
	}
	return len(m.commits)
}

// call: one of an engine or of the model.
type call struct {
	name    string
	session int
	text    string
	fuel    int
}

// next: the next call of the script, the last session being of this number.
func (s *script) next(last int) call {
	session, kind := last+2-s.pick(12), s.pick(23)
	if s.few && s.pick(4) > 0 {
		session, kind = last-s.pick(2), []int{3, 3, 3, 3, 3, 3, 9, 17, 17, 17}[s.pick(10)]
	}
	switch {
	case kind < 3:
		return call{name: "Open"}
	case kind < 9:
		return call{name: "Put", session: session, text: s.text(3)}
	case kind < 12:
		return call{name: "Clear", session: session, text: s.text(2)}
	case kind < 15:
		return call{name: "View", session: session}
	case kind < 17:
		return call{name: "Matches", session: session}
	case kind < 19:
		return call{name: "Run", session: session, fuel: []int{-1, 0, 1, 1, 2, 3, 5, 9, 99, 100}[s.pick(10)]}
	case kind < 21:
		return call{name: "Commit", session: session}
	case kind < 22:
		return call{name: "Abort", session: session}
	}
	return call{name: "Sweep"}
}

// of: what an engine answers.
func (c call) of(x *precept.Engine) string {
	switch c.name {
	case "Open":
		return fmt.Sprint(x.Open())
	case "Put":
		return fmt.Sprint(x.Put(c.session, c.text))
	case "Clear":
		return fmt.Sprint(x.Clear(c.session, c.text))
	case "View":
		return fmt.Sprint(x.View(c.session))
	case "Matches":
		return fmt.Sprint(x.Matches(c.session))
	case "Run":
		return fmt.Sprint(x.Run(c.session, c.fuel))
	case "Commit":
		return fmt.Sprint(x.Commit(c.session))
	case "Abort":
		return fmt.Sprint(x.Abort(c.session))
	}
	return fmt.Sprint(x.Sweep())
}

// asked: what the document asks for.
func (c call) asked(m *model) string {
	switch c.name {
	case "Open":
		return m.openOne()
	case "Put":
		return m.write(c.session, c.text, 3)
	case "Clear":
		return m.write(c.session, c.text, 2)
	case "View":
		return m.view(c.session)
	case "Matches":
		return m.matches(c.session)
	case "Run":
		return m.run(c.session, c.fuel)
	case "Commit":
		return m.commit(c.session)
	case "Abort":
		return m.abort(c.session)
	}
	return m.sweep()
}

// play: the answers of some calls, one behind the other. Behind each of them
// as many versions are kept as the document asks for.
func play(t *testing.T, s *script, x *precept.Engine, m *model, calls int) []string {
	t.Helper()
	var answers []string
	for i := 0; i < calls; i++ {
		c := s.next(m.last)
		got, want := c.of(x), c.asked(m)
		if got != want {
			t.Fatalf("P4 to P11: call %d, %.60v = %q, want %q", i, c, got, want)
		}
		if kept := x.Kept(); kept != len(m.kept) {
			t.Fatalf("P10: behind call %d, %.60v: Kept = %d, want %d", i, c, kept, len(m.kept))
		}
		answers = append(answers, got)
	}
	return answers
}

// newModel: of an engine with all the room there may be.
func newModel(rules string) *model {
	return &model{rules: rules, room: api.MaxRoom, open: map[int]*opened{}, kept: map[version]bool{}}
}

// someRules: that go with facts of any class, wherever they come from, and
// write such facts.
const someRules = "3:axy,bzw>+cxw,-bz;5:cx_,!d_x>+dx^x;3:ex_,fyz,x<y>-ex,.;5:!a__,1#2>+a00;"

// long: so many calls make a script long enough for all kinds of answers.
const long = 999

func TestP1ManyCalls(t *testing.T) {
	seen := map[string]int{}
	for seed := uint32(1); seed <= 60; seed++ {
		for _, answer := range play(t, &script{state: seed}, ruled(t, someRules), newModel(someRules), long) {
			seen[answer]++
		}
	}
	if conflict := fmt.Sprint(0, api.ErrConflict); seen[conflict] < 100 {
		t.Errorf("only %d conflicts: the scripts are too tame", seen[conflict])
	}
}

func TestP1NewAtAllTextsAndNumbers(t *testing.T) {
	s := &script{state: 7}
	const bytes = "5:axy,!<=#>+-.;^~_0wz\x00\xff"
	for i := 0; i < 20000; i++ {
		text := make([]byte, s.pick(60))
		for j := range text {
			text[j] = bytes[s.pick(len(bytes))]
		}
		for _, room := range append([]int{9}, extremes...) {
			x, e, place := precept.New(string(text), room)
			if (x == nil) != (e != api.OK) {
				t.Fatalf("P1: New(%q, %d) = %v, %d", text, room, x != nil, e)
			}
			if place < 0 || place > len(text) || e == api.OK && place != 0 {
				t.Fatalf("P1: New(%q, %d): place %d", text, room, place)
			}
		}
	}
}

func TestP2TheSameCallsHaveTheSameAnswers(t *testing.T) {
	other := "9:axy>.;"
	alone := play(t, &script{state: 3}, ruled(t, someRules), newModel(someRules), long)
	x, y := ruled(t, someRules), ruled(t, other)
	sx, mx, sy, my := &script{state: 3}, newModel(someRules), &script{state: 4}, newModel(other)
	for i := range alone {
		if got := play(t, sx, x, mx, 1); got[0] != alone[i] {
			t.Fatalf("P2: call %d beside another engine = %q, want %q", i, got[0], alone[i])
		}
		if i%3 > 0 {
			play(t, sy, y, my, 1)
		}
	}
}

// picture: what all sessions see, up to a number.
func picture(x *precept.Engine, last int) string {
	text := ""
	for n := 1; n <= last; n++ {
		v, e := x.View(n)
		text += fmt.Sprint(v, e, ";")
	}
	return text
}

func TestP2RefusedCallsAndViewsChangeNothing(t *testing.T) {
	x := engine(t)
	for i := 1; i <= 8; i++ {
		opens(t, x, i)
		answers(t, "P5: Put", x.Put(i, "a37"), api.OK)
	}
	ahead := picture(x, 10)
	answers(t, "P5: Put", x.Put(1, "a3"), api.ErrFact)
	answers(t, "P5: Put", x.Put(1, "a3x"), api.ErrFact)
	answers(t, "P5: Put", x.Put(1, "a312"), api.ErrFact)
	answers(t, "P5: Clear", x.Clear(1, "a37"), api.ErrFact)
	answers(t, "P5: Clear", x.Clear(1, "a"), api.ErrFact)
	for _, n := range append([]int{9}, extremes...) {
		notOpen(t, x, n)
	}
	if _, e := x.Open(); e != api.ErrOpen {
		t.Errorf("P4: Open = %d", e)
	}
	x.Kept()
	if _, e := x.Matches(1); e != api.OK {
		t.Errorf("P2: Matches = %d", e)
	}
	if behind := picture(x, 10); behind != ahead {
		t.Errorf("P2: %s, want %s", behind, ahead)
	}
	answers(t, "P5: Abort", x.Abort(8), api.OK)
	opens(t, x, 9)
}

func TestP2NewLeavesEnginesAlone(t *testing.T) {
	x := engine(t)
	opens(t, x, 1)
	answers(t, "P5: Put", x.Put(1, "c55"), api.OK)
	for _, rules := range []string{"", "5:axy>.;", "5:axy>"} {
		y, e, _ := precept.New(rules, 9)
		if e == api.OK {
			opens(t, y, 1)
			answers(t, "P5: Clear", y.Clear(1, "c5"), api.OK)
			answers(t, "P5: Abort", y.Abort(1), api.OK)
		}
	}
	sees(t, x, 1, "c55")
	opens(t, x, 2)
}
