package lower

import "grapnel/api"

// mostArguments is to how many one LApp applies.
const mostArguments = 29

// app makes a call of a built-in function that has its arguments; of another function an application.
func (l *lowering) app(c api.Core) api.Lam {
	f, args := part(c, 0), l.all(casesOf(c))
	if many := params(f.N); f.Kind == api.KBuiltin && len(args) >= many {
		return applied(of(api.LCall, f.N, args[:many:many]...), args[many:])
	}
	return applied(l.expr(f), args)
}

// applied applies a function: to some arguments ahead of the others, where there are more than one LApp takes. They are worked out from the right, so the order stays.
func applied(f api.Lam, args []api.Lam) api.Lam {
	for len(args) > 0 {
		many := min(len(args), mostArguments)
		parts := append([]api.Lam{f}, args[:many]...)
		f, args = of(api.LApp, 0, parts...), args[many:]
	}
	return f
}

// builtin makes a built-in function a value.
func (l *lowering) builtin(n int64) api.Lam {
	many := params(n)
	first := l.fresh(int64(many))
	var args []api.Lam
	for i := range many {
		args = append(args, variable(first+i))
	}
	return api.Lam{Kind: api.LFun, N: int64(many), V: first, L: []api.Lam{of(api.LCall, n, args...)}}
}

// params tells how many parameters a built-in function has.
func params(builtin int64) int {
	switch builtin {
	case api.BByte, api.BMake, api.BCompare:
		return 2
	}
	return 1
}
