package lam

import "grapnel/api"

// finish does what is left of a node all of whose parts have come to something.
func (r *run) finish(f frame) {
	switch f.Kind {
	case api.LBlock:
		r.tell(&block{tag: f.N, fields: f.got})
	case api.LField:
		r.get(f.got[0], f.N)
	case api.LSet:
		r.set(f.got[0], f.N, f.got[1])
	case api.LAt:
		r.getAt(f.got[0], f.got[1])
	case api.LPut:
		r.putAt(f.got[0], f.got[1], f.got[2])
	case api.LApp:
		r.apply(f)
	case api.LExit:
		r.exit(f)
	case api.LRaise:
		r.raise(f.got[0])
	case api.LFor:
		r.round(f)
	case api.LCall:
		r.call(f.N, f.got)
	default:
		r.operate(f.N, f.got)
	}
}

// exit goes on with the second part of an LExit's LCatch. What has come to wait in its first part waits no more.
func (r *run) exit(f frame) {
	at := f.bound.at(f.place)
	if many, ok := at.value.(mark); ok {
		r.cut(int(many))
	}
	r.do(&f.to.parts[1], at.around.bindAll(f.got))
}

// apply applies an LApp's first part to the others. If they are too many, the LApp waits for its first part once more, with those that are left.
func (r *run) apply(f frame) {
	fun, ok := is[*function](&r.world, f.got[0])
	if !ok {
		return
	}
	args, lacks := f.got[1:], fun.lacks()
	if len(args) < lacks {
		r.tell(fun.with(args))
		return
	}
	if len(args) > lacks {
		r.put(frame{node: f.node, got: f.got[lacks:]}, 0)
	}
	r.do(&fun.parts[0], fun.around.bindAll(fun.known).bindAll(args[:lacks]))
}
