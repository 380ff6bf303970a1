package arena

import "grapnel/api"

// halves is two halves of cells: which of them is current, and how much of it is in use. It knows nothing of blocks.
type halves struct {
	cells []api.Word // the lower half's, then the upper one's
	size  int        // cells of a half
	base  int        // the current half's first cell
	top   int        // the cell behind the last one in use
}

func newHalves(size int) *halves {
	return &halves{cells: make([]api.Word, 2*size), size: size}
}

// take brings so many cells more into use, and tells the first of them, if they fit.
func (h *halves) take(count int) (int, bool) {
	if count > h.base+h.size-h.top {
		return 0, false
	}
	first := h.top
	h.top += count
	return first, true
}

// fill overwrites cells, since they hold what lay there ahead of the last turns.
func (h *halves) fill(first, count int, w api.Word) {
	for i := range count {
		h.cells[first+i] = w
	}
}

// inUse tells whether a cell is one of the current half's that are taken.
func (h *halves) inUse(cell int) bool { return cell >= h.base && cell < h.top }

// turn makes the other half current, with nothing of it in use.
func (h *halves) turn() {
	h.base = h.size - h.base
	h.top = h.base
}
