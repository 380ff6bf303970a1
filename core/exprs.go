package core

import (
	"slices"

	"grapnel/api"
)

func (r *resolver) expr(n api.Node) api.Core {
	if kind := alike(n.Kind); kind != 0 {
		return api.Core{Kind: kind, At: n.At, L: r.all(n.L)}
	}
	switch n.Kind {
	case api.NInt:
		return api.Core{Kind: api.KInt, At: n.At, N: n.N}
	case api.NText:
		return api.Core{Kind: api.KText, At: n.At, S: n.S}
	case api.NUnit:
		return unit(api.KCon, n.At)
	case api.NBool:
		return truth(api.KCon, n.At, n.N == 1)
	case api.NName:
		return r.name(n)
	case api.NCon:
		c := r.constructor(api.KCon, n)
		c.L = r.all(operands(n))
		return c
	case api.NList:
		return list(api.KCon, n.At, r.all(n.L))
	case api.NRecord:
		return r.record(n)
	case api.NGet, api.NSet:
		return r.field(n)
	case api.NApp:
		return r.app(n)
	case api.NFun:
		return r.fun(n)
	case api.NCases:
		return r.cases(n)
	}
	return r.guided(n)
}

// alike tells the kind of the core of a node that has the same parts, and nothing else; 0: it is another node's.
func alike(kind int) int {
	switch kind {
	case api.NTuple:
		return api.KTuple
	case api.NArray:
		return api.KArray
	case api.NAt:
		return api.KAt
	case api.NPut:
		return api.KPut
	case api.NRaise:
		return api.KRaise
	case api.NWhile:
		return api.KWhile
	case api.NSeq:
		return api.KSeq
	}
	return 0
}

// guided resolves what chooses, binds or works out.
func (r *resolver) guided(n api.Node) api.Core {
	switch n.Kind {
	case api.NLet:
		binds, body := last(n.L)
		return r.let(n, binds, func() api.Core { return r.expr(body) })
	case api.NIf:
		return r.choice(n)
	case api.NMatch:
		return r.match(api.KMatch, n)
	case api.NTry:
		return r.match(api.KTry, n)
	case api.NFor:
		return r.loop(n)
	case api.NBin:
		return r.joined(n)
	case api.NUn:
		return r.operation(single(n.S), n)
	}
	return r.wrong(api.ErrForm, n.At)
}

func (r *resolver) all(l []api.Node) []api.Core {
	var all []api.Core
	for _, n := range l {
		all = append(all, r.expr(n))
	}
	return all
}

// name resolves an NName; one that stands for `ref` where that may be isn't asked for here.
func (r *resolver) name(n api.Node) api.Core {
	if v := r.variable(n.S); v >= 0 {
		return api.Core{Kind: api.KVar, At: n.At, V: v}
	}
	if n.S == "ref" {
		return r.wrong(api.ErrForm, n.At)
	}
	i := slices.Index(Builtins(), n.S)
	if i < 0 {
		return r.wrong(api.ErrName, n.At)
	}
	return api.Core{Kind: api.KBuiltin, At: n.At, N: int64(i + 1)}
}

func (r *resolver) app(n api.Node) api.Core {
	f, others := first(n.L)
	if f.Kind == api.NName && f.S == "ref" && r.variable(f.S) < 0 && len(others) == 1 {
		return api.Core{Kind: api.KOp, At: n.At, N: api.OpRef, L: r.all(others)}
	}
	return api.Core{Kind: api.KApp, At: n.At, L: r.all(n.L)}
}

// record resolves an NRecord: its parts in the order in which they are written, told in the order of the labels.
func (r *resolver) record(n api.Node) api.Core {
	record, places, ok := r.fields(n)
	if !ok {
		return api.Core{}
	}
	if len(places) < len(record.L) {
		return r.wrong(api.ErrForm, n.At)
	}
	c := api.Core{Kind: api.KRecord, At: n.At, S: record.S, L: make([]api.Core, len(places))}
	for i, f := range n.L {
		c.L[places[i]] = r.expr(part(f, 0))
	}
	return c
}

// field resolves an NGet or an NSet.
func (r *resolver) field(n api.Node) api.Core {
	l, ok := r.label(n.S)
	if !ok {
		return r.wrong(api.ErrName, n.At)
	}
	kind := api.KGet
	if n.Kind == api.NSet {
		kind = api.KSet
		if part(r.items[l.item], l.n).N != 1 {
			return r.wrong(api.ErrForm, n.At)
		}
	}
	return api.Core{Kind: kind, At: n.At, N: int64(l.n), S: n.S, L: r.all(n.L)}
}

func (r *resolver) choice(n api.Node) api.Core {
	c := api.Core{Kind: api.KIf, At: n.At, L: r.all(n.L)}
	if len(n.L) == 2 {
		c.L = append(c.L, unit(api.KCon, n.At))
	}
	return c
}

func (r *resolver) match(kind int, n api.Node) api.Core {
	value, arms := first(n.L)
	c := api.Core{Kind: kind, At: n.At, L: []api.Core{r.expr(value)}}
	c.L = append(c.L, r.arms(arms)...)
	return c
}

// loop resolves an NFor: its variable is bound behind both bounds.
func (r *resolver) loop(n api.Node) api.Core {
	bounds, body := last(n.L)
	return r.within(func() api.Core {
		c := api.Core{Kind: api.KFor, At: n.At, N: n.N, L: r.all(bounds)}
		c.V = r.bind(n.S)
		c.L = append(c.L, r.expr(body))
		return c
	})
}

// joined resolves an NBin.
func (r *resolver) joined(n api.Node) api.Core {
	switch n.S {
	case "&&":
		c := api.Core{Kind: api.KIf, At: n.At, L: r.all(n.L)}
		c.L = append(c.L, truth(api.KCon, n.At, false))
		return c
	case "||":
		left, others := first(n.L)
		c := api.Core{Kind: api.KIf, At: n.At, L: []api.Core{r.expr(left), truth(api.KCon, n.At, true)}}
		c.L = append(c.L, r.all(others)...)
		return c
	}
	return r.operation(joining(n.S), n)
}

func (r *resolver) operation(op int64, n api.Node) api.Core {
	if op == 0 {
		return r.wrong(api.ErrForm, n.At)
	}
	return api.Core{Kind: api.KOp, At: n.At, N: op, L: r.all(n.L)}
}

// joining tells the operation of a sign between two parts; 0: there is none.
func joining(s string) int64 {
	switch s {
	case "+":
		return api.OpAdd
	case "-":
		return api.OpSub
	case "*":
		return api.OpMul
	case "/":
		return api.OpDiv
	case "mod":
		return api.OpRem
	case "=":
		return api.OpEq
	case "<>":
		return api.OpNe
	case "<":
		return api.OpLt
	case ">":
		return api.OpGt
	case "<=":
		return api.OpLe
	case ">=":
		return api.OpGe
	case "^":
		return api.OpCat
	case ":=":
		return api.OpAssign
	}
	return 0
}

// single tells the operation of a sign in front of one part; 0: there is none.
func single(s string) int64 {
	switch s {
	case "-":
		return api.OpNeg
	case "not":
		return api.OpNot
	case "!":
		return api.OpDeref
	}
	return 0
}
