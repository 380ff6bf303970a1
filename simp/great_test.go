package simp_test

import (
	"slices"
	"testing"

	"grapnel/api"
	"grapnel/lam"
	"grapnel/simp"
)

// deep tells a body that is so deep, of nodes that f lays around each other.
func deep(many int, c api.Lam, f func(i int, c api.Lam) api.Lam) api.Lam {
	for i := range many {
		c = f(i, c)
	}
	return c
}

// great holds P15.1 and P15.2 of a great body, and that it becomes another one.
func great(t *testing.T, name string, body, want api.Lam, lines ...string) {
	t.Helper()
	p := program(body)
	if !lam.May(p) {
		t.Fatalf("%s: %d nodes may not be", name, nodes(body))
	}
	q, e := simp.Of(p)
	if e != api.OK || !equal(q.Body, want) || !lam.May(q) || !simp.Clean(q) {
		t.Fatalf("%s: %d: got %s", name, e, shown(q.Body))
	}
	if simp.Clean(p) != equal(body, want) {
		t.Errorf("%s: Clean tells %v", name, simp.Clean(p))
	}
	for _, fuel := range []int64{0, 1, 2, 10, 100, 1000, 5000, 100000} {
		if w := follows(p, q, lines, fuel); w != "" {
			t.Errorf("%s: %s", name, w)
		}
	}
}

// P15.1, P15.2: of programs as deep as they may be.
func TestDeep(t *testing.T) {
	const most = 1999 // nodes around the innermost one
	a, n := num(1), read()
	great(t, "neg", deep(most, a, func(_ int, c api.Lam) api.Lam { return op(api.OpNeg, c) }), num(-1))
	great(t, "sum", deep(most, a, func(_ int, c api.Lam) api.Lam { return add(a, c) }), num(most+1))
	great(t, "seq", deep(most, a, func(_ int, c api.Lam) api.Lam { return of(api.LSeq, 0, a, c) }), a)
	great(t, "first", deep(most, a, func(_ int, c api.Lam) api.Lam { return of(api.LSeq, 0, c, num(7)) }), num(7))
	great(t, "if", deep(most, num(5), func(i int, c api.Lam) api.Lam { return branch(c, num(i64(i%2)), num(7)) }), num(0))
	great(t, "then", deep(most-2, n, func(_ int, c api.Lam) api.Lam { return branch(a, c, n) }), n, "4")
	great(t, "let", deep(most, at(most-1), func(i int, c api.Lam) api.Lam { return let(i, a, c) }), a)
	great(t, "lets", let(most, n, deep(most-1, at(1), func(i int, c api.Lam) api.Lam { return let(i+1, at(i+2), c) })), let(most, n, at(most)), "4")
	great(t, "nested", deep(most, a, func(i int, c api.Lam) api.Lam { return let(i, c, at(i)) }), a)
	great(t, "texts", deep(most, a, func(i int, c api.Lam) api.Lam { return let(i, text("a"), c) }), a)
	great(t, "functions", deep(most-1, a, func(i int, c api.Lam) api.Lam {
		if i+2 == most {
			return let(i, fun(3000, 1, a), c)
		}
		return let(i, fun(3000, 1, at(i+1)), c)
	}), a)
	great(t, "catch", deep(most, a, func(i int, c api.Lam) api.Lam { return catch(i64(i), nil, c, num(7)) }), a)
	great(t, "second", deep(most, a, func(i int, c api.Lam) api.Lam { return catch(1, nil, num(7), c) }), num(7))
	great(t, "switch", deep(most, a, func(_ int, c api.Lam) api.Lam { return choose([]int64{1}, nil, c, a, num(7)) }), a)
	great(t, "fun", deep(most, a, func(i int, c api.Lam) api.Lam { return fun(i, 1, c) }), deep(most, a, func(i int, c api.Lam) api.Lam { return fun(i, 1, c) }))
	great(t, "functions in functions", deep(most/2, a, func(i int, c api.Lam) api.Lam { return of(api.LSeq, 0, fun(i, 1, c), num(3)) }), num(3))
	whole := deep(most, at(0), func(i int, c api.Lam) api.Lam { return let(most-1-i, block(0), c) })
	great(t, "blocks", whole, whole)
	exits := deep(most, exit(0), func(i int, c api.Lam) api.Lam { return catch(i64(most-1-i), nil, c, a) })
	great(t, "exits", exits, catch(0, nil, exit(0), a))
}

// P15.1, P15.2: of programs with as many nodes as they may have.
func TestMany(t *testing.T) {
	some := func(c api.Lam, many int) []api.Lam { return slices.Repeat([]api.Lam{c}, many) }
	wide := func(many int, f func(i int) api.Lam) api.Lam { // in blocks of up to 4000
		all := block(0)
		for i := range many {
			if i%4000 == 0 {
				all.L = append(all.L, block(0))
			}
			last := &all.L[len(all.L)-1]
			last.L = append(last.L, f(i))
		}
		return all
	}
	great(t, "numbers", wide(19990, func(i int) api.Lam { return num(i64(i)) }), wide(19990, func(i int) api.Lam { return num(i64(i)) }))
	great(t, "sums", wide(6660, func(i int) api.Lam { return add(num(i64(i)), num(1)) }), wide(6660, func(i int) api.Lam { return num(i64(i + 1)) }))
	great(t, "lets", wide(6660, func(i int) api.Lam { return let(1, num(i64(i)), at(1)) }), wide(6660, func(i int) api.Lam { return num(i64(i)) }))
	great(t, "many lets", wide(6660, func(i int) api.Lam { return let(i, num(i64(i)), at(i)) }), wide(6660, func(i int) api.Lam { return num(i64(i)) }))
	great(t, "catches", wide(6660, func(i int) api.Lam { return catch(i64(i), nil, num(i64(i)), num(1)) }), wide(6660, func(i int) api.Lam { return num(i64(i)) }))
	great(t, "variables", let(1, num(4), wide(19980, func(i int) api.Lam { return at(1) })), wide(19980, func(i int) api.Lam { return num(4) }))
	great(t, "text", let(1, text("a"), seq(fun(2, 1, wide(9900, func(i int) api.Lam { return at(1) })), fun(2, 1, wide(9900, func(i int) api.Lam { return at(1) })), num(5))), num(5))
	great(t, "switch", choose(nil, nil, append(some(num(1), 1), block(0, some(num(2), 4000)...))...), block(0, some(num(2), 4000)...))
	ns := make([]int64, 9000)
	for i := range ns {
		ns[i] = i64(2 * i)
	}
	parts := some(say(num(1)), 9002)
	parts[0], parts[9000], parts[9001] = num(2*8999), say(num(7)), say(num(8))
	great(t, "numbers of a switch", choose(ns, nil, parts...), say(num(7)))
	parts[0] = num(2*8999 + 1)
	great(t, "none of its numbers", choose(ns, nil, parts...), say(num(8)))
	parts[0] = read()
	great(t, "a switch on what isn't known", choose(ns, nil, parts...), choose(ns, nil, parts...), "17998")
}

// R1: what stands in functions that go is counted once, not once for each LLet around.
func TestDeepAndMany(t *testing.T) {
	const many = 1990
	c := deep(many, num(5), func(i int, c api.Lam) api.Lam {
		f := fun(3000, 1, block(0, at(many-i-1), at(many-i-1), at(many-i-1), at(max(many-i-2, 0))))
		return let(many-i, f, c)
	})
	for range 30 {
		great(t, "functions", let(0, text("a"), c), num(5))
	}
}

// R1, P15.1: a body with more nodes than may be, or deeper, or with more than one can count.
func TestTooGreat(t *testing.T) {
	refused(t, program(deep(2000, num(1), func(_ int, c api.Lam) api.Lam { return op(api.OpNeg, c) })))
	refused(t, program(deep(1<<16, num(1), func(_ int, c api.Lam) api.Lam { return of(api.LSeq, 0, num(1), c) })))
	refused(t, program(block(0, slices.Repeat([]api.Lam{block(0, slices.Repeat([]api.Lam{num(1)}, 4000)...)}, 5)...)))
	c := num(1)
	for range 60 {
		c = add(c, c)
	}
	refused(t, program(c))
	c = num(1)
	for range 13 {
		c = add(c, c)
	}
	great(t, "the same parts in many places", c, num(1<<13))
	parts := []api.Lam{add(at(1), num(1))} // in two places, of which each has other variables around
	neg := api.Lam{Kind: api.LOp, N: api.OpNeg, L: parts}
	becomes(t, block(0, let(1, num(5), neg), let(1, read(), neg), let(1, num(7), neg)), block(0, num(-6), let(1, read(), op(api.OpNeg, add(at(1), num(1)))), num(-8)), "4")
}
