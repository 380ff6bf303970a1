package model

import (
	"cmp"

	"grapnel/api"
)

// order tells which of two values is less, each pair that is held against each other taking fuel; false: that isn't told.
func (r *run) order(v, w value) (int, bool) {
	told, e := r.compare(v, w)
	switch e {
	case api.OK:
		return told, true
	case api.ErrFun:
		r.raise(exnArgument)
	default:
		r.stop(OutOfFuel)
	}
	return 0, false
}

// rows are two lists of one length: what stands in the same place of both is to be held against each other.
type rows struct {
	v, w []value
}

// compare holds fields against each other ahead of what stands behind their blocks. Its work is rows, not pairs: so it takes no more room than the blocks that are within each other.
func (r *run) compare(v, w value) (int, api.Errno) {
	work := []rows{{[]value{v}, []value{w}}}
	for len(work) > 0 {
		if r.fuel < 1 {
			return 0, api.ErrSteps
		}
		r.fuel--
		top := &work[len(work)-1]
		a, b := top.v[0], top.w[0]
		top.v, top.w = top.v[1:], top.w[1:]
		if len(top.v) == 0 {
			work = work[:len(work)-1]
		}
		told, fields, e := hold(a, b)
		if told != 0 || e != api.OK {
			return told, e
		}
		if len(fields.v) > 0 {
			work = append(work, fields)
		}
	}
	return 0, api.OK
}

// hold tells which of two values is less, or, where that hangs on their fields alone, these.
func hold(v, w value) (int, rows, api.Errno) {
	if isFunction(v) || isFunction(w) {
		return 0, rows{}, api.ErrFun
	}
	if told := cmp.Compare(rank(v), rank(w)); told != 0 {
		return told, rows{}, api.OK
	}
	if x, ok := v.(number); ok {
		y, _ := w.(number)
		return cmp.Compare(x, y), rows{}, api.OK
	}
	if x, ok := v.(text); ok {
		y, _ := w.(text)
		return cmp.Compare(x, y), rows{}, api.OK
	}
	x, _ := v.(*block)
	y, _ := w.(*block)
	if x == y {
		return 0, rows{}, api.OK
	}
	told := cmp.Or(cmp.Compare(x.tag, y.tag), cmp.Compare(len(x.fields), len(y.fields)))
	if told != 0 {
		return told, rows{}, api.OK
	}
	return 0, rows{x.fields, y.fields}, api.OK
}

func isFunction(v value) bool {
	_, ok := v.(*function)
	return ok
}

// rank tells where the values of a kind stand in the order: a text's tag is above all blocks'.
func rank(v value) int {
	if _, ok := v.(number); ok {
		return 0
	}
	if _, ok := v.(*block); ok {
		return 1
	}
	return 2
}
