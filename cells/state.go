package cells

// State is what a cell has: a value, or nothing: then it is empty.
type State struct {
	Filled bool
	Value  int
}

// Write is what a session wrote last to a cell, if it wrote anything, and the
// time of that. To empty a cell is a write, even if it was empty before.
type Write struct {
	Made  bool
	State State
	Time  int
}

// Version is what a commit wrote to a cell, and the commit's number. The stamp
// 0 is that of no commit: the cell is empty then.
type Version struct {
	Stamp int
	State State
}
