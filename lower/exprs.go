package lower

import "grapnel/api"

// expr makes the lambda form of an expression.
func (l *lowering) expr(c api.Core) api.Lam {
	switch c.Kind {
	case api.KInt:
		return number(c.N)
	case api.KText:
		return text(c.S)
	case api.KVar:
		return variable(l.known(c.V))
	case api.KBuiltin:
		return l.builtin(c.N)
	case api.KCon:
		if len(c.L) == 0 {
			return number(c.N)
		}
		return of(api.LBlock, c.N, l.all(c.L)...)
	case api.KApp:
		return l.app(c)
	case api.KMatch:
		return l.match(c)
	case api.KTry:
		return l.try(c)
	case api.KFun, api.KLet, api.KRec, api.KFor:
		return l.binder(c)
	}
	return of(likeKind(c.Kind), c.N, l.all(c.L)...)
}

// likeKind tells the kind of node that does just what a core's kind does, with the same number and parts.
func likeKind(kind int) int {
	switch kind {
	case api.KTuple, api.KArray, api.KRecord:
		return api.LBlock
	case api.KGet:
		return api.LField
	case api.KSet:
		return api.LSet
	case api.KAt:
		return api.LAt
	case api.KPut:
		return api.LPut
	case api.KIf:
		return api.LIf
	case api.KRaise:
		return api.LRaise
	case api.KWhile:
		return api.LWhile
	case api.KSeq:
		return api.LSeq
	case api.KOp:
		return api.LOp
	}
	return 0
}

func (l *lowering) all(cores []api.Core) []api.Lam {
	var parts []api.Lam
	for _, c := range cores {
		parts = append(parts, l.expr(c))
	}
	return parts
}

// binder makes a node that binds variables: a KFun and a KRec around all their parts, a KLet and a KFor around the last one.
func (l *lowering) binder(c api.Core) api.Lam {
	switch c.Kind {
	case api.KFun:
		v := l.bind(c.V, c.N)
		return api.Lam{Kind: api.LFun, N: c.N, V: v, L: l.all(c.L)}
	case api.KRec:
		v := l.bind(c.V, c.N)
		return api.Lam{Kind: api.LRec, N: c.N, V: v, L: l.all(c.L)}
	case api.KLet:
		value := l.expr(part(c, 0))
		v := l.bind(c.V, 1)
		return let(v, value, l.expr(part(c, 1)))
	}
	parts := l.all([]api.Core{part(c, 0), part(c, 1)})
	v := l.bind(c.V, 1)
	return api.Lam{Kind: api.LFor, N: c.N, V: v, L: append(parts, l.expr(part(c, 2)))}
}
