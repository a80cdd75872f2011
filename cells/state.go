package cells

// State is what a cell has: a value, or nothing: then it is empty.
type State struct {
	Filled bool
	Value  int
}

// Write is what was written last to a cell, if anything was. To empty a cell
// is a write, even if it was empty before.
type Write struct {
	Made  bool
	State State
}
