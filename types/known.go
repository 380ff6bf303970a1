package types

import (
	"slices"

	"grapnel/api"
)

// last tells the variable that a variable is at last: either nothing is known of that one, or that it is a name.
// On the way each variable comes to lead further, so that long ways are gone once.
func (t *Table) last(v int) int {
	for t.known[v].V != 0 {
		next := t.known[v]
		if further := t.known[next.V]; further.V != 0 {
			t.known[v] = further
			next = further
		}
		v = next.V
	}
	return v
}

// shorten tells what a variable is at last, if a is one.
func (t *Table) shorten(a api.Type) api.Type {
	if a.V == 0 {
		return a
	}
	return api.Type{V: t.last(a.V)}
}

// name tells the name that something shortened is; false: it is a variable of which nothing is known.
func (t *Table) name(a api.Type) (api.Type, bool) {
	if a.V == 0 {
		return a, true
	}
	is, ok := t.known[a.V]
	return is, ok
}

// unify makes two types one.
func (t *Table) unify(a, b api.Type) api.Errno {
	a, b = t.shorten(a), t.shorten(b)
	if a.V != 0 && a.V == b.V {
		return api.OK
	}
	m, ok := t.name(a)
	if !ok {
		return t.learn(a.V, b)
	}
	n, ok := t.name(b)
	if !ok {
		return t.learn(b.V, a)
	}
	if m.S != n.S || len(m.L) != len(n.L) {
		return api.ErrType
	}
	for i := range m.L {
		if e := t.unify(m.L[i], n.L[i]); e != api.OK {
			return e
		}
	}
	t.join(a, b)
	return api.OK
}

// learn keeps that a variable, of which nothing is known, is a from now on.
func (t *Table) learn(v int, a api.Type) api.Errno {
	if slices.Contains(t.vars(a), v) {
		return api.ErrOccurs
	}
	t.known[v] = t.flat(a)
	return api.OK
}

// join makes two that have become the same one variable, if they are variables: without it, what stands in many places would be gone through again in each.
// It is done behind their parts, since only then neither stands within the other one.
func (t *Table) join(a, b api.Type) {
	if a.V != 0 && b.V != 0 {
		t.known[a.V] = b
	}
}

// flat tells a type as it is kept, in new memory: each part of it a variable, so that two parts can be joined, whatever they are.
func (t *Table) flat(a api.Type) api.Type {
	f := api.Type{V: a.V, S: a.S}
	for _, p := range a.L {
		f.L = append(f.L, t.variable(p))
	}
	return f
}

// variable tells the variable that a part is, or one of the Table's own that is that part.
func (t *Table) variable(p api.Type) api.Type {
	if p.V != 0 {
		return p
	}
	t.own++
	v := -t.own
	t.known[v] = t.flat(p)
	return api.Type{V: v}
}
