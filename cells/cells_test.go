package cells

import "testing"

// inOrder: all cells, in the order that the document gives them.
func inOrder() []string {
	var list []string
	for _, class := range "abcdef" {
		for _, digit := range "0123456789" {
			list = append(list, string(class)+string(digit))
		}
	}
	return list
}

func TestCellsAreNumberedInTheirOrder(t *testing.T) {
	list := inOrder()
	if len(list) != Count {
		t.Fatalf("Count = %d, want %d", Count, len(list))
	}
	for want, text := range list {
		if cell, ok := ReadCell(text); cell != want || !ok {
			t.Errorf("ReadCell(%q) = %d, %v, want %d", text, cell, ok, want)
		}
	}
}

func TestFactsAreReadAsTheyAreWritten(t *testing.T) {
	for cell, text := range inOrder() {
		for value := 0; value < Digits; value++ {
			fact := text + string(rune('0'+value))
			if c, v, ok := ReadFact(fact); c != cell || v != value || !ok {
				t.Errorf("ReadFact(%q) = %d, %d, %v", fact, c, v, ok)
			}
			f := NewFact(cell, value, 7)
			if got := f.Text(); got != fact {
				t.Errorf("Text of %d, %d = %q, want %q", cell, value, got, fact)
			}
			if want := (Fact{int(fact[0] - 'a'), int(fact[1] - '0'), value, 7}); f != want {
				t.Errorf("NewFact(%d, %d, 7) = %v, want %v", cell, value, f, want)
			}
		}
	}
}

func TestOtherTextsAreNone(t *testing.T) {
	for _, text := range []string{"", "a", "3", "3a", "a3 ", " a3", "a37", "g0", "`0", "a/", "a:", "A3", "\xe13"} {
		if cell, ok := ReadCell(text); cell != 0 || ok {
			t.Errorf("ReadCell(%q) = %d, %v", text, cell, ok)
		}
	}
	for _, text := range []string{"", "a", "a3", "37a", "a370", "a37 ", "g00", "a3/", "a3:", "a:3", "a3x"} {
		if cell, value, ok := ReadFact(text); cell != 0 || value != 0 || ok {
			t.Errorf("ReadFact(%q) = %d, %d, %v", text, cell, value, ok)
		}
	}
}
