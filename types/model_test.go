package types_test

import (
	"math/rand"
	"slices"

	"grapnel/api"
)

// facts is a Table written down word for word: what is known is looked up anew in each node, and all of each type is gone through.
type facts struct {
	known    map[int]api.Type
	greatest int
}

func (f *facts) resolved(a api.Type) api.Type {
	if a.V > 0 {
		is, ok := f.known[a.V]
		if !ok {
			return a
		}
		return f.resolved(is)
	}
	r := named(a.S)
	for _, p := range a.L {
		r.L = append(r.L, f.resolved(p))
	}
	return r
}

// nodesOf tells the nodes of a type, each ahead of its parts.
func nodesOf(a api.Type) []api.Type {
	all := []api.Type{a}
	for _, p := range a.L {
		all = append(all, nodesOf(p)...)
	}
	return all
}

func varsOf(a api.Type) []int {
	var all []int
	for _, x := range nodesOf(a) {
		if x.V > 0 && !slices.Contains(all, x.V) {
			all = append(all, x.V)
		}
	}
	return all
}

func (f *facts) note(a api.Type) {
	for _, n := range varsOf(a) {
		f.greatest = max(f.greatest, n)
	}
}

func (f *facts) Unify(a, b api.Type) api.Errno {
	f.note(a)
	f.note(b)
	if len(nodesOf(f.resolved(a))) > api.MaxType || len(nodesOf(f.resolved(b))) > api.MaxType {
		return api.ErrMany
	}
	return f.makeOne(a, b)
}

func (f *facts) makeOne(a, b api.Type) api.Errno {
	a, b = f.resolved(a), f.resolved(b)
	if a.V > 0 && b.V > 0 {
		if a.V != b.V {
			f.known[a.V] = b
		}
		return api.OK
	}
	if b.V > 0 {
		a, b = b, a
	}
	if a.V > 0 {
		if slices.Contains(varsOf(b), a.V) {
			return api.ErrOccurs
		}
		f.known[a.V] = b
		return api.OK
	}
	if a.S != b.S || len(a.L) != len(b.L) {
		return api.ErrType
	}
	for i := range a.L {
		if e := f.makeOne(a.L[i], b.L[i]); e != api.OK {
			return e
		}
	}
	return api.OK
}

// sprout makes up a type of up to that depth, of variables up to some one. A name t may have any number of parts.
func sprout(r *rand.Rand, depth, variables int) api.Type {
	k := r.Intn(12)
	switch {
	case variables > 0 && (k < 3 || depth == 0 && k < 8):
		return v(1 + r.Intn(variables))
	case k < 6 || depth == 0:
		return named([]string{"int", "bool", "t"}[r.Intn(3)])
	case k < 8:
		return named([]string{"list", "ref", "t"}[r.Intn(3)], sprout(r, depth-1, variables))
	case k < 11:
		return named([]string{"->", "*", "t"}[r.Intn(3)], sprout(r, depth-1, variables), sprout(r, depth-1, variables))
	}
	return named("*", sprout(r, depth-1, variables), sprout(r, depth-1, variables), sprout(r, depth-1, variables))
}

// altered tells a type in which parts are others here and there: most of them variables, so that the two can often be made one.
func altered(r *rand.Rand, a api.Type, variables int) api.Type {
	switch k := r.Intn(40); {
	case k < 6:
		return v(1 + r.Intn(variables))
	case k == 6:
		return sprout(r, 2, variables)
	}
	b := api.Type{V: a.V, S: a.S}
	for _, p := range a.L {
		b.L = append(b.L, altered(r, p, variables))
	}
	return b
}
