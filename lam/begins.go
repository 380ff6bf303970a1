package lam

import "grapnel/api"

// begin begins a node.
func (r *run) begin(f frame) {
	if !r.burn() {
		return
	}
	switch f.Kind {
	case api.LInt:
		r.tell(number(f.N))
	case api.LText:
		r.tell(text(f.S))
	case api.LVar:
		r.tell(f.bound.at(f.place).value)
	case api.LFun:
		r.tell(&function{node: f.node, around: f.bound})
	case api.LRec:
		r.rec(f)
	case api.LCatch:
		r.do(&f.parts[0], f.bound.bind(mark(len(r.waiting))))
	case api.LLet, api.LIf, api.LSwitch, api.LSeq, api.LWhile, api.LTry:
		r.wait(f, 0)
	default:
		r.fromRight(f)
	}
}

// rec binds all functions ahead of what is around them, since each is around all of them.
func (r *run) rec(f frame) {
	last := len(f.parts) - 1
	bound := f.bound
	var all []*function
	for i := range last {
		all = append(all, &function{node: &f.parts[i]})
		bound = bound.bind(all[i])
	}
	for _, x := range all {
		x.around = bound
	}
	r.do(&f.parts[last], bound)
}

// bodyOfFor is the part of an LFor that comes behind both bounds.
const bodyOfFor = 2

// fromRight begins a node that needs what parts come to ahead of all else.
func (r *run) fromRight(f frame) {
	many := len(f.parts)
	if f.Kind == api.LFor {
		many = bodyOfFor
	}
	if many == 0 {
		r.finish(f)
		return
	}
	f.got = make([]value, many)
	r.wait(f, many-1)
}
