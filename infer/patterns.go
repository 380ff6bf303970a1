package infer

import "grapnel/api"

func (f *finder) any(*api.Core) api.Type { return f.fresh() }

// name tells the type of a pattern's variable: a new one, where the pattern under way has it first.
func (f *finder) name(c *api.Core) api.Type {
	if place := f.scope.places[c.V]; place > f.pattern {
		return f.scope.bonds[place-1].t
	}
	return f.holdNew(c.V, 1)[0]
}

func (f *finder) as(c *api.Core) api.Type {
	t := f.name(c)
	f.is(part(c, 0), t)
	return t
}

func (f *finder) or(c *api.Core) api.Type {
	t := f.of(part(c, 0))
	f.is(part(c, 1), t)
	return t
}
