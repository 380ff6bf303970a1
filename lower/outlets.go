package lower

import "grapnel/api"

// outlet is where an LExit leads: an LCatch, which is made only if there is such an exit.
type outlet struct {
	n    int64
	used bool
}

func (o *outlet) exit(parts ...api.Lam) api.Lam {
	o.used = true
	return of(api.LExit, o.n, parts...)
}

// catch makes what first tells, and, around it, an LCatch with what second tells, if an exit leads there.
func (l *lowering) catch(first func(*outlet) api.Lam, vars []int64, second func() api.Lam) api.Lam {
	o := &outlet{n: l.catches}
	l.catches++
	body := first(o)
	if !o.used {
		return body
	}
	return api.Lam{Kind: api.LCatch, N: o.n, Ns: vars, L: []api.Lam{body, second()}}
}
