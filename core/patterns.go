package core

import (
	"slices"

	"grapnel/api"
)

// pattern binds the names of one pattern.
type pattern struct {
	r     *resolver
	from  int      // the number of its first variable
	ahead []string // the names that it has bound so far, those of a POr's other way aside
}

func (r *resolver) newPattern() *pattern { return &pattern{r: r, from: len(r.names)} }

// pattern resolves a pattern that stands by itself; what it binds is bound behind it.
func (r *resolver) pattern(n api.Node) api.Core { return r.newPattern().of(n) }

func (p *pattern) of(n api.Node) api.Core {
	switch n.Kind {
	case api.PAny:
		return api.Core{Kind: api.QAny, At: n.At}
	case api.PInt:
		return api.Core{Kind: api.QInt, At: n.At, N: n.N}
	case api.PText:
		return api.Core{Kind: api.QText, At: n.At, S: n.S}
	case api.PUnit:
		return unit(api.QCon, n.At)
	case api.PBool:
		return truth(api.QCon, n.At, n.N == 1)
	case api.PName:
		return api.Core{Kind: api.QVar, At: n.At, V: p.name(n)}
	case api.PAs:
		v := p.name(n)
		return api.Core{Kind: api.QAs, At: n.At, V: v, L: p.all(n.L)}
	case api.PCon:
		c := p.r.constructor(api.QCon, n)
		c.L = p.all(operands(n))
		return c
	case api.PTuple:
		return api.Core{Kind: api.QTuple, At: n.At, L: p.all(n.L)}
	case api.PList:
		return list(api.QCon, n.At, p.all(n.L))
	case api.PRecord:
		return p.record(n)
	case api.POr:
		return p.or(n)
	}
	return p.r.wrong(api.ErrForm, n.At)
}

func (p *pattern) all(l []api.Node) []api.Core {
	var all []api.Core
	for _, n := range l {
		all = append(all, p.of(n))
	}
	return all
}

// name tells the number of the variable that a PName, PAs binds.
// Where the name has one, and wasn't bound ahead, a POr's other way has bound it.
func (p *pattern) name(n api.Node) int {
	if slices.Contains(p.ahead, n.S) {
		p.r.wrong(api.ErrTwice, n.At)
	}
	p.ahead = append(p.ahead, n.S)
	if v := p.r.variable(n.S); v >= p.from {
		return v
	}
	return p.r.bind(n.S)
}

// record resolves a PRecord: its parts in the order in which they are written, told in the order of the labels.
func (p *pattern) record(n api.Node) api.Core {
	record, places, ok := p.r.fields(n)
	if !ok {
		return api.Core{}
	}
	c := api.Core{Kind: api.QRecord, At: n.At, S: record.S}
	for range record.L {
		c.L = append(c.L, api.Core{Kind: api.QAny, At: n.At})
	}
	for i, f := range n.L {
		c.L[places[i]] = p.of(part(f, 0))
	}
	return c
}

func (p *pattern) or(n api.Node) api.Core {
	if !slices.Equal(bound(part(n, 0)), bound(part(n, 1))) {
		return p.r.wrong(api.ErrName, n.At)
	}
	ahead := len(p.ahead)
	c := api.Core{Kind: api.QOr, At: n.At, L: []api.Core{p.of(part(n, 0))}}
	p.ahead = p.ahead[:ahead]
	c.L = append(c.L, p.of(part(n, 1)))
	return c
}

// bound tells the names that stand in a pattern to be bound, each once, sorted.
func bound(n api.Node) []string {
	all := gathered(n, nil)
	slices.Sort(all)
	return slices.Compact(all)
}

func gathered(n api.Node, all []string) []string {
	if n.Kind == api.PName || n.Kind == api.PAs {
		all = append(all, n.S)
	}
	for _, x := range n.L {
		all = gathered(x, all)
	}
	return all
}
