package infer

import "grapnel/api"

// signature is what a node's first parts must be, and what the node is then.
type signature struct {
	told   api.Type
	wanted []api.Type
}

func telling(told api.Type, wanted ...api.Type) signature {
	return signature{told: told, wanted: wanted}
}

// takes makes the types of a node's first parts those that are wanted, one by one, and tells the node's.
func (f *finder) takes(c *api.Core, s signature) api.Type {
	for i, want := range s.wanted {
		f.is(part(c, i), want)
	}
	return s.told
}

// operation tells the type of what an operation comes to.
func (f *finder) operation(c *api.Core) api.Type {
	if c.N == api.OpRef {
		return cell(f.of(part(c, 0)))
	}
	return f.takes(c, f.operands(c))
}

// operands tells an operation's signature.
func (f *finder) operands(c *api.Core) signature {
	switch c.N {
	case api.OpAdd, api.OpSub, api.OpMul, api.OpDiv, api.OpRem, api.OpAnd, api.OpOr, api.OpXor, api.OpShl, api.OpShr:
		return telling(number(), number(), number())
	case api.OpLess:
		return telling(truth(), number(), number())
	case api.OpNeg:
		return telling(number(), number())
	case api.OpNot:
		return telling(truth(), truth())
	case api.OpCat:
		return telling(text(), text(), text())
	case api.OpEq, api.OpNe, api.OpLt, api.OpGt, api.OpLe, api.OpGe:
		a := f.fresh()
		return telling(truth(), a, a)
	case api.OpDeref:
		a := f.fresh()
		return telling(a, cell(a))
	case api.OpAssign:
		a := f.fresh()
		return telling(unit(), cell(a), a)
	}
	return telling(f.wrong(api.ErrForm, c.At))
}

// get tells the type of a record's field.
func (f *finder) get(c *api.Core) api.Type {
	l := f.label(c)
	return f.takes(c, telling(l.t, l.sort))
}

// set tells the type of setting a record's field.
func (f *finder) set(c *api.Core) api.Type {
	l := f.label(c)
	return f.takes(c, telling(unit(), l.sort, l.t))
}

// element tells the type of an array's element.
func (f *finder) element(c *api.Core) api.Type {
	a := f.fresh()
	return f.takes(c, telling(a, array(a), number()))
}

// put tells the type of putting an array's element.
func (f *finder) put(c *api.Core) api.Type {
	a := f.fresh()
	return f.takes(c, telling(unit(), array(a), number(), a))
}

func (f *finder) raise(c *api.Core) api.Type {
	return f.takes(c, telling(f.fresh(), exn()))
}
