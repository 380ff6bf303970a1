package infer

import "grapnel/api"

func (f *finder) number(*api.Core) api.Type { return number() }

func (f *finder) text(*api.Core) api.Type { return text() }

func (f *finder) apply(c *api.Core) api.Type {
	t := f.of(part(c, 0))
	for i := 1; i < len(c.L); i++ {
		a, r := f.of(&c.L[i]), f.fresh()
		f.one(t, arrow(a, r), c.L[i].At)
		t = r
	}
	return t
}

func (f *finder) function(c *api.Core) api.Type {
	if c.N < 0 || c.N > api.MaxParts { // no source has so many parameters
		return f.wrong(api.ErrForm, c.At)
	}
	around := len(f.scope.bonds)
	params := f.holdNew(c.V, int(c.N))
	t := f.of(part(c, 0))
	f.scope.leave(around)
	for i := len(params) - 1; i >= 0; i-- {
		t = arrow(params[i], t)
	}
	return t
}

// holdNew binds variables of new types, and tells these.
func (f *finder) holdNew(from, many int) []api.Type {
	var all []api.Type
	for i := range many {
		t := f.fresh()
		f.scope.hold(from+i, t)
		all = append(all, t)
	}
	return all
}

func (f *finder) let(c *api.Core) api.Type {
	t := f.of(part(c, 0))
	around := len(f.scope.bonds)
	if isValue(part(c, 0)) {
		f.scope.bind(f.generalized(c.V, t))
	} else {
		f.scope.hold(c.V, t)
	}
	t = f.of(part(c, 1))
	f.scope.leave(around)
	return t
}

// isValue tells whether a node is a value: what is worked out of it is so once and for all, so its type may be general.
func isValue(c *api.Core) bool {
	switch c.Kind {
	case api.KInt, api.KText, api.KVar, api.KBuiltin, api.KFun:
		return true
	case api.KCon, api.KTuple:
		for i := range c.L {
			if !isValue(&c.L[i]) {
				return false
			}
		}
		return true
	}
	return false
}

// rec tells the type of a KRec: within its functions their types aren't general, behind them they are.
func (f *finder) rec(c *api.Core) api.Type {
	if c.N < 0 || c.N != int64(len(c.L)-1) {
		return f.wrong(api.ErrForm, c.At)
	}
	around, many := len(f.scope.bonds), len(c.L)-1
	all := f.holdNew(c.V, many)
	for i, t := range all {
		f.is(&c.L[i], t)
	}
	f.scope.leave(around)
	for i, t := range all {
		f.scope.bind(f.generalized(c.V+i, t))
	}
	t := f.of(&c.L[many])
	f.scope.leave(around)
	return t
}

func (f *finder) choice(c *api.Core) api.Type {
	f.is(part(c, 0), truth())
	t := f.of(part(c, 1))
	f.is(part(c, 2), t)
	return t
}

func (f *finder) match(c *api.Core) api.Type {
	t := f.of(part(c, 0))
	r := f.fresh()
	f.cases(c, t, r)
	return r
}

func (f *finder) try(c *api.Core) api.Type {
	t := f.of(part(c, 0))
	f.cases(c, exn(), t)
	return t
}

// cases goes through the cases behind a node's first part: what they are held against, and what they come to, has these types.
func (f *finder) cases(c *api.Core, t, r api.Type) {
	for i := 1; i < len(c.L); i++ {
		f.arm(&c.L[i], t, r)
	}
}

func (f *finder) arm(c *api.Core, t, r api.Type) {
	if c.Kind != api.KCase {
		f.wrong(api.ErrForm, c.At)
		return
	}
	around := len(f.scope.bonds)
	f.pattern = around
	f.is(part(c, 0), t)
	body := part(c, 1)
	if len(c.L) > 2 {
		f.is(body, truth())
		body = part(c, 2)
	}
	f.is(body, r)
	f.scope.leave(around)
}

func (f *finder) while(c *api.Core) api.Type {
	f.is(part(c, 0), truth())
	f.of(part(c, 1))
	return unit()
}

func (f *finder) loop(c *api.Core) api.Type {
	f.is(part(c, 0), number())
	f.is(part(c, 1), number())
	around := len(f.scope.bonds)
	f.scope.hold(c.V, number())
	f.of(part(c, 2))
	f.scope.leave(around)
	return unit()
}

func (f *finder) seq(c *api.Core) api.Type {
	f.of(part(c, 0))
	return f.of(part(c, 1))
}
