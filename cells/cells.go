// Package cells: cells and facts, and how they are written.
package cells

// Cells are numbered in their order: by class, then by digit.
const (
	Classes = 6
	Digits  = 10
	Count   = Classes * Digits
)

// Digit tells the digit that a byte is.
func Digit(b byte) (int, bool) {
	if b < '0' || b > '9' {
		return 0, false
	}
	return int(b - '0'), true
}

// Class tells the class that a byte is, from 0 on.
func Class(b byte) (int, bool) {
	if b < 'a' || b > 'f' {
		return 0, false
	}
	return int(b - 'a'), true
}

// ReadCell tells the number of the cell that a text is.
func ReadCell(text string) (int, bool) {
	if len(text) != 2 {
		return 0, false
	}
	class, isClass := Class(text[0])
	digit, isDigit := Digit(text[1])
	if !isClass || !isDigit {
		return 0, false
	}
	return class*Digits + digit, true
}

// ReadFact tells the number of the cell, and its value, of the fact that a text is.
func ReadFact(text string) (int, int, bool) {
	if len(text) != 3 {
		return 0, 0, false
	}
	cell, isCell := ReadCell(text[:2])
	value, isDigit := Digit(text[2])
	if !isCell || !isDigit {
		return 0, 0, false
	}
	return cell, value, true
}
