package lam

import "grapnel/api"

// node is one that may be. What a run finds by it is found once, ahead of the run: so no run asks by variables' numbers.
type node struct {
	*api.Lam
	parts []node
	place int   // of an LVar, an LExit: where its variable, or its LCatch's mark, stands among what is bound around
	to    *node // of an LExit: its LCatch
}

// builder makes the nodes of a program, as long as it may be.
type builder struct {
	left    int           // how many nodes there may still be
	deep    int           // how deep the node stands that is built
	places  map[int64]int // of the variables that are bound around
	bound   int           // how many variables and marks are bound around
	catches map[int64]catch
	tries   int // in how many LTrys' first parts stands what is built
}

// catch is an LCatch of the function that is built, in whose first part stands what is built.
type catch struct {
	to    *node
	place int // of its mark
	tries int // in how many LTrys' first parts it stands itself
}

// nodesOf tells a program's nodes; false: it may not be.
func nodesOf(p api.Lams) (*node, bool) {
	if !exnsMay(p.Exns) {
		return nil, false
	}
	b := &builder{left: mostNodes - 1, deep: 1, places: map[int64]int{}, catches: map[int64]catch{}}
	n := &node{}
	return n, b.build(n, &p.Body)
}

func (b *builder) build(n *node, l *api.Lam) bool {
	b.left -= len(l.L)
	if b.left < 0 || b.deep > mostDeep || !hasShape(l) {
		return false
	}
	n.Lam, n.parts = l, make([]node, len(l.L))
	switch l.Kind {
	case api.LVar:
		return b.variable(n)
	case api.LFun:
		return b.function(n)
	case api.LRec:
		return b.rec(n)
	case api.LLet, api.LFor:
		return b.binder(n)
	case api.LTry:
		return b.try(n)
	case api.LCatch:
		return b.catch(n)
	case api.LExit:
		return b.exit(n)
	case api.LSwitch:
		return rise(l.Ns) && rise(l.Ts) && areTags(l.Ts) && b.all(n)
	}
	return b.all(n)
}

func areTags(rising []int64) bool {
	last := len(rising) - 1
	return last < 0 || rising[0] >= 0 && rising[last] <= api.TagLast
}

func (b *builder) part(n *node, i int) bool {
	b.deep++
	ok := b.build(&n.parts[i], &n.L[i])
	b.deep--
	return ok
}

func (b *builder) all(n *node) bool {
	for i := range n.L {
		if !b.part(n, i) {
			return false
		}
	}
	return true
}

// bind binds variables, each in the place behind the one ahead of it; false: one may not be bound.
func (b *builder) bind(vars []int64) bool {
	for _, v := range vars {
		if _, ok := b.places[v]; ok || !upTo(mostNumber).has(v) {
			return false
		}
		b.places[v] = b.bound
		b.bound++
	}
	return true
}

func (b *builder) unbind(vars []int64) {
	for _, v := range vars {
		delete(b.places, v)
	}
	b.bound -= len(vars)
}

// with builds what f builds while the variables are bound. (Of a program that may not be nothing is built any more: so it doesn't matter then what stays bound.)
func (b *builder) with(vars []int64, f func() bool) bool {
	if !b.bind(vars) || !f() {
		return false
	}
	b.unbind(vars)
	return true
}

// own tells the variables that a node other than an LCatch binds.
func own(n *node) []int64 {
	many := int64(1)
	if n.Kind == api.LFun || n.Kind == api.LRec {
		many = n.N
	}
	var vars []int64
	for i := range many {
		vars = append(vars, int64(n.V)+i)
	}
	return vars
}

func (b *builder) variable(n *node) bool {
	place, ok := b.places[int64(n.V)]
	n.place = place
	return ok
}

// function builds a function's body: from there no exit leads to what is around the function.
func (b *builder) function(n *node) bool {
	catches := b.catches
	b.catches = map[int64]catch{}
	ok := b.with(own(n), func() bool { return b.all(n) })
	b.catches = catches
	return ok
}

func (b *builder) rec(n *node) bool {
	for i := range n.N {
		if n.L[i].Kind != api.LFun {
			return false
		}
	}
	return b.with(own(n), func() bool { return b.all(n) })
}

// binder builds an LLet or an LFor: their variable is bound in the last part.
func (b *builder) binder(n *node) bool {
	last := len(n.L) - 1
	for i := range last {
		if !b.part(n, i) {
			return false
		}
	}
	return b.with(own(n), func() bool { return b.part(n, last) })
}

func (b *builder) try(n *node) bool {
	b.tries++
	ok := b.part(n, 0)
	b.tries--
	return ok && b.with(own(n), func() bool { return b.part(n, 1) })
}

func (b *builder) catch(n *node) bool {
	if _, ok := b.catches[n.N]; ok {
		return false
	}
	b.catches[n.N] = catch{to: n, place: b.bound, tries: b.tries}
	b.bound++
	ok := b.part(n, 0)
	b.bound--
	delete(b.catches, n.N)
	return ok && b.with(n.Ns, func() bool { return b.part(n, 1) })
}

// exit builds an LExit: from an LTry's first part it leads to nothing around that.
func (b *builder) exit(n *node) bool {
	c, ok := b.catches[n.N]
	if !ok || c.tries != b.tries || len(n.L) != len(c.to.Ns) {
		return false
	}
	n.place, n.to = c.place, c.to
	return b.all(n)
}
