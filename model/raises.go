package model

import "grapnel/api"

// The exceptions that a run raises by itself: the numbers of those without anything, and the tag of the one of something.
const (
	exnMatch    = number(0)
	exnDivision = number(1)
	exnArgument = number(2)
	exnEnd      = number(3)
	tagFailure  = 0
)

func failure(s string) value {
	return &block{tag: tagFailure, fields: []value{text(s)}}
}

// raise goes back to the nearest KTry whose first part is under way, and that has a case for what is raised.
func (r *run) raise(v value) {
	for f, ok := r.take(); ok; f, ok = r.take() {
		if f.Kind != api.KTry || f.part != 0 {
			continue
		}
		f.got = []value{v}
		if r.met(f, 1) {
			return
		}
	}
	r.end.Exn = r.nameOf(v)
	r.stop(Uncaught)
}

// nameOf tells an exception's name; empty: the value is none.
func (r *run) nameOf(v value) string {
	if n, ok := v.(number); ok {
		return r.exn(int64(n), false)
	}
	if b, ok := v.(*block); ok {
		return r.exn(b.tag, true)
	}
	return ""
}

func (r *run) exn(n int64, with bool) string {
	for _, x := range r.exns {
		if int64(x.N) == n && (len(x.Of) > 0) == with {
			return x.Name
		}
	}
	return ""
}
