package matching

import (
	"precept/api"
	"precept/cells"
)

// places is how many instantiations a rule may have. As a pattern has one class,
// the digits of the cells tell which facts of all that there are were chosen.
const places = cells.Digits * cells.Digits * cells.Digits

// mark is that an instantiation was fired, and the latest time of its facts then.
type mark struct {
	made   bool
	latest int
}

// Memory is the instantiations that a session fired, a mark for each place of
// each rule. Its latest time stands for all of them: what was written since is
// later, so that with the same latest time no fact of the place is another.
type Memory struct {
	marks []mark
}

// place is where the mark of an instantiation stands, if there is such a place.
func (n Instantiation) place() (int, bool) {
	place := 0
	for i := 0; i < n.Count && i < len(n.Facts); i++ {
		place = place*cells.Digits + n.Facts[i].Digit
	}
	if n.Rule < 0 || n.Rule >= api.MaxRules || place < 0 || place >= places {
		return 0, false
	}
	return n.Rule*places + place, true
}

// Has tells whether an instantiation was fired, with the times that it has.
func (m *Memory) Has(n Instantiation) bool {
	place, ok := n.place()
	if !ok || place >= len(m.marks) {
		return false
	}
	return m.marks[place] == mark{made: true, latest: n.Latest}
}

// Add remembers an instantiation as fired. Nothing is laid out for marks ahead
// of the first, as most sessions may never fire one.
func (m *Memory) Add(n Instantiation) {
	if len(m.marks) == 0 {
		m.marks = make([]mark, api.MaxRules*places)
	}
	place, ok := n.place()
	if ok && place < len(m.marks) {
		m.marks[place] = mark{made: true, latest: n.Latest}
	}
}
