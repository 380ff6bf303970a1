package core

import (
	"slices"

	"grapnel/api"
)

// program resolves the items from one on: each let's body is what is behind it.
func (r *resolver) program(from int) api.Core {
	for i := from; i < len(r.items); i++ {
		r.item = i
		if n := r.items[i]; n.Kind == api.ILet {
			return r.let(n, n.L, func() api.Core { return r.program(i + 1) })
		}
	}
	return unit(api.KCon, 0)
}

// let resolves an NLet or an ILet of these binds; body resolves what its names are bound in.
func (r *resolver) let(n api.Node, binds []api.Node, body func() api.Core) api.Core {
	return r.within(func() api.Core {
		if n.N == 1 {
			return r.rec(n, binds, body)
		}
		values := r.values(binds)
		if len(binds) != 1 {
			value := api.Core{Kind: api.KTuple, At: n.At, L: values}
			return matched(n.At, value, r.together(n, binds), body())
		}
		p := part(binds[0], 0)
		if p.Kind == api.PName {
			v := r.bind(p.S)
			return api.Core{Kind: api.KLet, At: n.At, V: v, L: []api.Core{values[0], body()}}
		}
		return matched(n.At, values[0], r.pattern(p), body())
	})
}

// together resolves the patterns of a let of several binds, as one.
func (r *resolver) together(n api.Node, binds []api.Node) api.Core {
	p := r.newPattern()
	c := api.Core{Kind: api.QTuple, At: n.At}
	for _, b := range binds {
		c.L = append(c.L, p.of(part(b, 0)))
	}
	return c
}

func (r *resolver) values(binds []api.Node) []api.Core {
	var all []api.Core
	for _, b := range binds {
		all = append(all, r.expr(part(b, 1)))
	}
	return all
}

// rec resolves a let rec: all its names are bound ahead of its values.
func (r *resolver) rec(n api.Node, binds []api.Node, body func() api.Core) api.Core {
	names, ok := r.functions(binds)
	if !ok {
		return api.Core{}
	}
	c := api.Core{Kind: api.KRec, At: n.At, N: int64(len(binds)), V: len(r.names)}
	r.names = append(r.names, names...)
	c.L = append(r.values(binds), body())
	return c
}

// functions tells the names of a let rec's functions; false: something is wrong.
func (r *resolver) functions(binds []api.Node) ([]string, bool) {
	var names []string
	for _, b := range binds {
		p, value := part(b, 0), part(b, 1)
		if p.Kind != api.PName || value.Kind != api.NFun && value.Kind != api.NCases {
			r.wrong(api.ErrForm, b.At)
			return nil, false
		}
		if slices.Contains(names, p.S) {
			r.wrong(api.ErrTwice, p.At)
			return nil, false
		}
		names = append(names, p.S)
	}
	return names, true
}

// fun resolves an NFun. A parameter whose pattern is no name is a variable without one.
func (r *resolver) fun(n api.Node) api.Core {
	patterns, body := last(n.L)
	return r.within(func() api.Core {
		c := api.Core{Kind: api.KFun, At: n.At, N: int64(len(patterns)), V: len(r.names)}
		for _, p := range patterns {
			r.bind(parameter(p))
		}
		c.L = []api.Core{r.taken(c.V, patterns, body)}
		return c
	})
}

// parameter tells a parameter's name; empty: none, since no name is empty.
func parameter(p api.Node) string {
	if p.Kind == api.PName {
		return p.S
	}
	return ""
}

// taken resolves a function's body, in the matches that take its parameters, the variables from v on, apart.
func (r *resolver) taken(v int, patterns []api.Node, body api.Node) api.Core {
	for i, p := range patterns {
		if p.Kind == api.PName {
			continue
		}
		value := api.Core{Kind: api.KVar, At: p.At, V: v + i}
		met := r.pattern(p)
		return matched(p.At, value, met, r.taken(v+i+1, patterns[i+1:], body))
	}
	return r.expr(body)
}

// cases resolves an NCases.
func (r *resolver) cases(n api.Node) api.Core {
	return r.within(func() api.Core {
		v := r.bind("")
		value := api.Core{Kind: api.KVar, At: n.At, V: v}
		c := api.Core{Kind: api.KMatch, At: n.At, L: append([]api.Core{value}, r.arms(n.L)...)}
		return api.Core{Kind: api.KFun, At: n.At, N: 1, V: v, L: []api.Core{c}}
	})
}

func (r *resolver) arms(l []api.Node) []api.Core {
	var all []api.Core
	for _, n := range l {
		all = append(all, r.within(func() api.Core { return r.arm(n) }))
	}
	return all
}

func (r *resolver) arm(n api.Node) api.Core {
	p, others := first(n.L)
	c := api.Core{Kind: api.KCase, At: n.At, L: []api.Core{r.pattern(p)}}
	c.L = append(c.L, r.all(others)...)
	return c
}
