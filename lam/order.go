package lam

import "cmp"

// order tells which of two values is less, each pair that is held against each other taking fuel; false: that isn't told.
func (w *world) order(a, b value) (int, bool) {
	work := []rows{{[]value{a}, []value{b}}}
	for len(work) > 0 {
		if !w.burn() {
			return 0, false
		}
		top := &work[len(work)-1]
		x, y := top.a[0], top.b[0]
		top.a, top.b = top.a[1:], top.b[1:]
		if len(top.a) == 0 {
			work = work[:len(work)-1]
		}
		if isFunction(x) || isFunction(y) {
			w.raise(exnArgument)
			return 0, false
		}
		told, fields := hold(x, y)
		if told != 0 {
			return told, true
		}
		if len(fields.a) > 0 {
			work = append(work, fields)
		}
	}
	return 0, true
}

// rows are two lists of one length: what stands in the same place of both is to be held against each other, ahead of what lies below them. Of a block there is one row, not a pair for each field: so no more room is needed than there are blocks within each other.
type rows struct{ a, b []value }

// hold tells which of two values, that are no functions, is less, or, where that hangs on their fields alone, these.
func hold(a, b value) (int, rows) {
	if told := cmp.Compare(rank(a), rank(b)); told != 0 {
		return told, rows{}
	}
	switch x := a.(type) {
	case number:
		y, _ := b.(number)
		return cmp.Compare(x, y), rows{}
	case text:
		y, _ := b.(text)
		return cmp.Compare(x, y), rows{}
	}
	x, _ := a.(*block)
	y, _ := b.(*block)
	if x == y {
		return 0, rows{}
	}
	told := cmp.Or(cmp.Compare(x.tag, y.tag), cmp.Compare(len(x.fields), len(y.fields)))
	if told != 0 {
		return told, rows{}
	}
	return 0, rows{x.fields, y.fields}
}

// rank tells where the values of a kind stand in the order: a text's tag is above all blocks'.
func rank(v value) int {
	switch v.(type) {
	case number:
		return 0
	case *block:
		return 1
	}
	return 2
}
