package versions

import "precept/cells"

// Kept is how many versions are kept.
func (s *Store) Kept() int {
	count := 0
	for cell := 0; cell < len(s.histories); cell++ {
		count += len(s.histories[cell].kept)
	}
	return count
}

// Sweep drops what no cell has at any stamp from the oldest on, and the empty
// ones up to it; the answer is how many that were.
func (s *Store) Sweep(oldest int) int {
	dropped := 0
	for cell := 0; cell < len(s.histories); cell++ {
		count := s.histories[cell].sweep(oldest)
		dropped += count
	}
	return dropped
}

// sweep needs no version that says empty for what the cell has at the oldest
// stamp: all that stood ahead of it goes too, and without any the cell is empty.
func (h *history) sweep(oldest int) int {
	base := h.at(oldest)
	var kept []cells.Version
	for _, version := range h.kept {
		isBase := version.Stamp == base.Stamp && version.State.Filled
		if version.Stamp > oldest || isBase {
			kept = append(kept, version)
		}
	}
	dropped := len(h.kept) - len(kept)
	h.kept = kept
	return dropped
}
