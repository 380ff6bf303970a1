package model

import (
	"slices"

	"grapnel/api"
)

// finish does what is left of a node all of whose parts have come to something.
func (r *run) finish(f frame) {
	switch f.Kind {
	case api.KCon:
		r.construct(f)
	case api.KTuple, api.KArray, api.KRecord:
		r.tell(&block{fields: f.got})
	case api.KGet:
		r.get(f.got[0], f.N)
	case api.KSet:
		r.set(f.got[0], f.N, f.got[1])
	case api.KAt:
		if b, i, ok := r.element(f); ok {
			r.tell(b.fields[i])
		}
	case api.KPut:
		if b, i, ok := r.element(f); ok {
			b.fields[i] = f.got[2]
			r.tell(unit)
		}
	case api.KApp:
		r.apply(f)
	case api.KRaise:
		r.raise(f.got[0])
	case api.KFor:
		r.round(f)
	default:
		r.operate(f.N, f.got)
	}
}

func (r *run) construct(f frame) {
	if len(f.got) == 0 {
		r.tell(number(f.N))
		return
	}
	r.tell(&block{tag: f.N, fields: f.got})
}

func (r *run) get(v value, i int64) {
	if b, ok := r.hasField(v, i); ok {
		r.tell(b.fields[i])
	}
}

func (r *run) set(v value, i int64, to value) {
	if b, ok := r.hasField(v, i); ok {
		b.fields[i] = to
		r.tell(unit)
	}
}

// hasField tells a value as a block that has that field. What has a type always has it: so it can't be done otherwise.
func (r *run) hasField(v value, i int64) (*block, bool) {
	b, ok := is[*block](r, v)
	if ok && !within(i, len(b.fields)) {
		r.stop(Wrong)
		return nil, false
	}
	return b, ok
}

// element tells the array of a KAt or a KPut, and which element of it is meant, if there is one.
func (r *run) element(f frame) (*block, number, bool) {
	i, ok := is[number](r, f.got[1])
	if !ok {
		return nil, 0, false
	}
	b, ok := is[*block](r, f.got[0])
	if ok && !within(int64(i), len(b.fields)) {
		r.raise(exnArgument)
		return nil, 0, false
	}
	return b, i, ok
}

func within(i int64, many int) bool { return i >= 0 && i < int64(many) }

// apply applies a KApp's first part to the others. If they are too many, the KApp waits for its first part once more, with those that are left.
func (r *run) apply(f frame) {
	fun, ok := is[*function](r, f.got[0])
	if !ok {
		return
	}
	args, lacks := f.got[1:], fun.lacks()
	if int64(len(args)) < lacks {
		r.tell(fun.with(args))
		return
	}
	if int64(len(args)) > lacks {
		r.put(frame{Core: f.Core, got: f.got[lacks:]})
	}
	r.enter(fun, args[:lacks])
}

// enter has a function worked out that lacks just these arguments.
func (r *run) enter(f *function, args []value) {
	if f.builtin != 0 {
		r.call(f.builtin, slices.Concat(f.known, args))
		return
	}
	bound := f.around.bindAll(f.fun.V, f.known).bindAll(f.fun.V+len(f.known), args)
	r.do(partOf(f.fun, 0), bound)
}
