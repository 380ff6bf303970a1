package simp

import "grapnel/api"

// fact is what is known of a variable that an LLet around binds.
type fact struct {
	is    api.Lam // the LLet's first part
	times int     // how often the variable stands in what has been told
}

// facts are what is known of variables, by their numbers: of those alone that are around.
type facts map[int]fact

// bind notes what a variable is.
func (k facts) bind(v int, is api.Lam) { k[v] = fact{is: is} }

// leave ends what is known of a variable: another LLet may bind the same number.
func (k facts) leave(v int) { delete(k, v) }

func (k facts) stands(v int) bool { return k[v].times > 0 }

// stand tells what stands in a variable's place.
func (k facts) stand(v int) api.Lam {
	c := api.Lam{Kind: api.LVar, V: v}
	if is := k[v].is; is.Kind == api.LInt || is.Kind == api.LVar {
		c = is
	}
	k.count(c, 1)
	return c
}

// forget takes back that variables stand in a node.
func (k facts) forget(c api.Lam) {
	k.count(c, -1)
	for _, part := range c.L {
		k.forget(part)
	}
}

func (k facts) count(c api.Lam, by int) {
	if c.Kind != api.LVar {
		return
	}
	if f, ok := k[c.V]; ok {
		f.times += by
		k[c.V] = f
	}
}
