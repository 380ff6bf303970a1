package model

import "grapnel/api"

// begin begins a node.
func (r *run) begin(f frame) {
	if r.fuel < 1 {
		r.stop(OutOfFuel)
		return
	}
	r.fuel--
	switch f.Kind {
	case api.KInt:
		r.tell(numberOf(wordOf(number(f.N))))
	case api.KText:
		r.tell(text(f.S))
	case api.KVar:
		r.look(f.V)
	case api.KBuiltin:
		r.builtIn(f.N)
	case api.KFun:
		r.function(f)
	case api.KRec:
		r.rec(f)
	case api.KLet, api.KIf, api.KMatch, api.KTry, api.KWhile, api.KSeq:
		r.wait(f, 0)
	default:
		r.fromRight(f)
	}
}

func (r *run) look(n int) {
	v := r.bound.find(n)
	if v == nil { // of what core.Resolve tells each variable is bound
		r.stop(Wrong)
		return
	}
	r.tell(v)
}

func (r *run) builtIn(n int64) {
	if n < api.BPrintInt || n > api.BHash {
		r.stop(Wrong)
		return
	}
	r.tell(&function{builtin: int(n)})
}

func (r *run) function(f frame) {
	if !isFun(f.Core) {
		r.stop(Wrong)
		return
	}
	r.tell(&function{fun: f.Core, around: f.bound})
}

// isFun tells whether a node is a function of some parameters: one of none would be no value.
func isFun(c *api.Core) bool { return c.Kind == api.KFun && c.N > 0 }

// rec binds all functions ahead of what is around them, since each is around all of them.
func (r *run) rec(f frame) {
	many := max(len(f.L)-1, 0)
	bound := f.bound
	var all []*function
	for i := range many {
		if !isFun(&f.L[i]) {
			r.stop(Wrong)
			return
		}
		all = append(all, &function{fun: &f.L[i]})
		bound = bound.bind(f.V+i, all[i])
	}
	for _, x := range all {
		x.around = bound
	}
	r.do(partOf(f.Core, many), bound)
}

// fromRight begins a node that needs what parts come to ahead of all else.
func (r *run) fromRight(f frame) {
	switch many := needed(f.Core); {
	case many < 0:
		r.stop(Wrong)
	case many == 0:
		r.finish(f)
	default:
		f.got = make([]value, many)
		r.wait(f, many-1)
	}
}

// needed tells how many parts are worked out ahead of what a node does with them; below 0: there is no such node.
func needed(c *api.Core) int {
	switch c.Kind {
	case api.KCon, api.KTuple, api.KArray, api.KRecord:
		return len(c.L)
	case api.KApp:
		return max(len(c.L), 1)
	case api.KGet, api.KRaise:
		return 1
	case api.KSet, api.KAt, api.KFor:
		return 2
	case api.KPut:
		return 3
	case api.KOp:
		return operands(c.N)
	}
	return -1
}
