package cells

// Fact is a cell with its value, and the time that it has for a session.
type Fact struct {
	Class int
	Digit int
	Value int
	Time  int
}

// NewFact is the fact of a cell's number, its value and its time.
func NewFact(cell int, value int, time int) Fact {
	return Fact{Class: cell / Digits, Digit: cell % Digits, Value: value, Time: time}
}

// Text is how the fact is written: its time is not told.
func (f Fact) Text() string {
	return string([]byte{byte('a' + f.Class), byte('0' + f.Digit), byte('0' + f.Value)})
}
