package lower

import (
	"slices"

	"grapnel/api"
)

// spread puts each way of a row in a row of its own. All of them lead to what follows, which stands once, and bring what they have bound. The row asks for nothing else: so a way that is met is what is looked for.
func (l *lowering) spread(places []int, rows []row, i int, behind *outlet) api.Lam {
	r := rows[i]
	x := l.loadOf(r.left[0])
	return l.catch(func(join *outlet) api.Lam {
		met := func(all []bound, _ *outlet) api.Lam { return join.exit(x.sent(all)...) }
		var spread []row
		for _, q := range waysOf(r.left[0]) {
			spread = append(spread, row{left: append([]api.Core{q}, r.left[1:]...), met: met})
		}
		return l.rows(places, slices.Concat(rows[:i], spread, rows[i+1:]), behind)
	}, x.passed(), func() api.Lam {
		r.bound = append(r.bound, x.bound...)
		return x.unpacked(r.met(r.bound, behind))
	})
}

// mostPassed is to how many variables one LExit leads.
const mostPassed = 30

// load is what an LExit brings from a way: what is bound there, each with its variable behind the exit. What is too much for one LExit comes in a block.
type load struct {
	bound []bound
	block int // its variable, if there is one
}

func (l *lowering) loadOf(q api.Core) load {
	x := load{block: noVariable}
	for _, v := range namesOf(q) {
		x.bound = append(x.bound, bound{v, l.fresh(1)})
	}
	if len(x.bound) > mostPassed {
		x.block = l.fresh(1)
	}
	return x
}

// passed tells the variables to which the LExit leads.
func (x load) passed() []int64 {
	if x.block != noVariable {
		return []int64{int64(x.block)}
	}
	var all []int64
	for _, b := range x.bound {
		all = append(all, int64(b.v))
	}
	return all
}

// sent tells the LExit's parts, by what has been bound in a way.
func (x load) sent(all []bound) []api.Lam {
	var parts []api.Lam
	for _, b := range x.bound {
		parts = append(parts, variable(boundTo(all, b.core)))
	}
	if x.block != noVariable {
		return []api.Lam{of(api.LBlock, 0, parts...)}
	}
	return parts
}

func boundTo(all []bound, core int) int {
	for _, b := range all {
		if b.core == core {
			return b.v
		}
	}
	return noVariable
}

// unpacked makes what reads the variables from the block, if there is one, ahead of what follows.
func (x load) unpacked(body api.Lam) api.Lam {
	if x.block == noVariable {
		return body
	}
	for i, b := range slices.Backward(x.bound) {
		body = let(b.v, of(api.LField, int64(i), variable(x.block)), body)
	}
	return body
}
