package simp_test

import (
	"slices"
	"testing"

	"grapnel/api"
	"grapnel/simp"
)

// withTypes tells a program whose last exceptions are of these types.
func withTypes(of ...api.Type) api.Lams {
	p := program(num(7))
	p.Exns = p.Exns[:6]
	for i, x := range of {
		p.Exns = append(p.Exns, api.Con{Name: string(rune('A' + i)), N: i + 1, Of: []api.Type{x}})
	}
	return p
}

// typesStay holds P15.1 of the exceptions of a program, and tells the answer's.
func typesStay(t *testing.T, name string, p api.Lams) []api.Con {
	t.Helper()
	q, e := simp.Of(p)
	if e != api.OK || q.Body.Kind != api.LInt || q.Body.N != 7 || !simp.Clean(p) || !slices.EqualFunc(p.Exns, q.Exns, sameExn) {
		t.Errorf("%s: %d", name, e)
	}
	return q.Exns
}

func sameExn(a, b api.Con) bool { return a.Name == b.Name && a.N == b.N && sameTypes(a.Of, b.Of) }

func sameTypes(a, b []api.Type) bool {
	return slices.EqualFunc(a, b, func(a, b api.Type) bool { return a.V == b.V && a.S == b.S && sameTypes(a.L, b.L) })
}

// tuple tells a type of parts.
func tuple(parts ...api.Type) api.Type { return api.Type{V: len(parts) % 5, S: "*", L: parts} }

// P15.1: the exceptions stay as they are, however many nodes their types have.
func TestTypesOfManyNodes(t *testing.T) {
	parts := slices.Repeat([]api.Type{{S: "int"}, {V: 3, S: "bool"}}, 1<<20)
	for _, many := range []int{0, 1, 1 << 10, 1<<19 - 1, 1 << 19, 1<<20 - 2, 1<<20 - 1, 1 << 20, 1<<20 + 1, 1<<21 - 1, 1 << 21} {
		all := typesStay(t, "wide", withTypes(tuple(parts[:many]...)))
		if of := all[6].Of[0].L; many > 0 && (len(of) != many || &of[0] == &parts[0]) {
			t.Errorf("%d parts: %d, or they aren't new", many, len(of))
		}
	}
	half := tuple(parts[:1<<19]...)
	typesStay(t, "in many exceptions", withTypes(half, half, api.Type{V: 1}, half, tuple(half, half)))
}

// P15.1: likewise where they are nested.
func TestNestedTypes(t *testing.T) {
	deepest := tuple(make([]api.Type, 200000)...)
	for range 1 << 16 {
		deepest = api.Type{S: "list", L: []api.Type{deepest}}
	}
	typesStay(t, "deep", withTypes(deepest))
	each := make([]api.Type, 1<<19)
	for i := range each {
		each[i] = api.Type{S: "->", L: []api.Type{{V: i}, {S: "list", L: []api.Type{{S: "int"}}}}}
	}
	typesStay(t, "lists in a list", withTypes(tuple(each...)))
}

// doubled tells a type that stands twice in another one, and so on, so many times.
func doubled(of api.Type, times int) api.Type {
	for range times {
		of = tuple(of, of)
	}
	return of
}

// LANGUAGE 7: no two lists of the answer share anything, though those that were handed do; there is room for as much.
func TestTypesAreApart(t *testing.T) {
	t.Parallel()
	for _, times := range []int{1, 5, 10, 18, 20} {
		of := doubled(api.Type{V: 4, L: []api.Type{{S: "int"}}}, times)
		all := typesStay(t, "doubled", withTypes(of, of, of.L[0]))
		if times <= 18 {
			seen := map[*api.Type]int{}
			for _, x := range all {
				onceTypes(seen, x.Of)
			}
			if twice(seen) {
				t.Errorf("%d times: lists are shared", times)
			}
		}
		spoilTypes(all[6].Of)
		if !sameTypes(all[7].Of, []api.Type{of}) || !sameTypes(all[8].Of, of.L[:1]) || of.L[0].V == 99 {
			t.Errorf("%d times: what is another exception's, or was handed, has changed", times)
		}
	}
}

// R1, P15.1: types of shared parts, for which there would be no room apart.
func TestTypesWithoutRoom(t *testing.T) {
	for _, times := range []int{22, 23, 24, 30, 60, 1000, 1 << 16} {
		end := api.Type{S: "list", L: []api.Type{{S: "int"}}}
		of := doubled(end, times)
		p := withTypes(of, tuple(of.L[0], end))
		q, e := simp.Of(p)
		if e != api.OK || !simp.Clean(p) || len(q.Exns) != 8 || len(q.Exns[7].Of) != 1 || !sameTypes(q.Exns[7].Of[0].L[1:], []api.Type{end}) {
			t.Fatalf("%d times: %d", times, e)
		}
		was, is := of, q.Exns[6].Of[0]
		for i := range times {
			if len(is.L) != 2 || &is.L[0] == &was.L[0] || is.S != was.S || is.V != was.V || is.L[(i+1)%2].S != was.L[0].S {
				t.Fatalf("%d times: other types %d within, or what was handed", times, i)
			}
			was, is = was.L[i%2], is.L[i%2]
		}
		if !sameTypes([]api.Type{is}, []api.Type{end}) {
			t.Errorf("%d times: other types at the end", times)
		}
		if again, e := simp.Of(p); e != api.OK || &again.Exns[6].Of[0].L[0] == &q.Exns[6].Of[0].L[0] {
			t.Errorf("%d times: what was answered", times)
		}
	}
}
