package lam_test

import (
	"slices"
	"testing"

	"grapnel/api"
	"grapnel/lam"
)

// deep tells a body that is so deep, of nodes that f lays around each other.
func deep(many int, f func(i int, c api.Lam) api.Lam) api.Lam {
	c := num(1)
	for i := range many - 1 {
		c = f(i, c)
	}
	return c
}

// P13.1: at most 2000 deep, the body being 1 deep, in whichever part.
func TestDeep(t *testing.T) {
	a := num(1)
	for _, f := range map[string]func(i int, c api.Lam) api.Lam{
		"neg": func(_ int, c api.Lam) api.Lam { return op(api.OpNeg, c) }, "first": func(_ int, c api.Lam) api.Lam { return seq(c, a) }, "last": func(_ int, c api.Lam) api.Lam { return of(api.LSeq, 0, a, c) },
		"let": func(i int, c api.Lam) api.Lam { return let(i, a, c) }, "fun": func(i int, c api.Lam) api.Lam { return fun(30*i, 30, c) }, "block": func(_ int, c api.Lam) api.Lam { return block(0, a, c, a) }, "catch": func(i int, c api.Lam) api.Lam { return catch(i64(i), nil, c, a) }, "second": func(_ int, c api.Lam) api.Lam { return catch(1, nil, a, c) },
		"try": func(_ int, c api.Lam) api.Lam { return try(c, 1, a) }, "caught": func(i int, c api.Lam) api.Lam { return try(a, i, c) }, "for": func(i int, c api.Lam) api.Lam { return loop(1, i, a, a, c) }, "switch": func(_ int, c api.Lam) api.Lam { return choose(nil, nil, a, c) },
	} {
		for _, n := range []int{1, 2, 1999, 2000, 2001, 2002, 5000} {
			isGreat(t, deep(n, f), n <= 2000)
		}
	}
	for n, want := range map[int]bool{1998: true, 1999: true, 2000: false} { // below the innermost LRec its function's body is one deeper
		isGreat(t, deep(n, func(i int, c api.Lam) api.Lam { return rec(2*i, fun(5000, 1, a), c) }), want)
	}
	for n, want := range map[int]bool{999: true, 1000: true, 1001: false} { // each LRec and its function are two deep
		isGreat(t, deep(n, func(i int, c api.Lam) api.Lam { return rec(2*i, fun(2*i+1, 1, c), a) }), want)
	}
	for n, want := range map[int]bool{1998: true, 1999: true, 2000: false} {
		isGreat(t, catch(1, []int64{1}, deep(n, func(_ int, c api.Lam) api.Lam { return exit(1, c) }), at(1)), want)
	}
}

// isGreat holds that a body, that comes to a value, may be, or that it may not.
func isGreat(t *testing.T, body api.Lam, want bool) {
	t.Helper()
	p := program(body)
	comes := wrong("")
	if want {
		comes = done("")
	}
	if got := lam.Run(p, nil, enough); lam.May(p) != want || got != comes {
		t.Errorf("%d nodes: May doesn't tell %v, or it has ended so: %+v", nodes(body), want, got)
	}
}

// P13.1: at most 20000 nodes, wherever they are.
func TestMany(t *testing.T) {
	a := num(1)
	some := func(n int) []api.Lam { return slices.Repeat([]api.Lam{a}, n) }
	wide := func(n int) api.Lam { // n nodes, n - 1 a sum of blocks
		c := block(0)
		for left := n - 1; left > 0; left -= min(left, 4001) {
			c.L = append(c.L, block(0, some(min(left, 4001)-1)...))
		}
		return c
	}
	for _, n := range []int{1, 2, 19998, 19999, 20000, 20001, 20002, 24000} {
		for name, c := range map[string]api.Lam{"blocks": wide(n), "fun": fun(1, 1, wide(max(n-1, 1))), "let": let(1, a, wide(max(n-2, 1))), "try": try(wide(max(n-2, 1)), 1, a), "if": branch(num(0), wide(max(n-3, 1)), a), "seq": seq(a, wide(max(n-2, 1)))} {
			if nodes(c) < int64(n) {
				t.Fatalf("%s of %d: %d nodes", name, n, nodes(c))
			}
			isGreat(t, c, nodes(c) <= 20000)
		}
	}
}

// R1: a body whose parts are there many times over has more nodes than one can count.
func TestManyTimesOver(t *testing.T) {
	for _, depth := range []int{15, 40, 1999, 3000} {
		c := num(1)
		for range depth {
			c = seq(say(num(1)), op(api.OpAdd, c, c))
		}
		p := program(c)
		if lam.May(p) || lam.Run(p, nil, enough) != wrong("") {
			t.Errorf("%d deep: it may be", depth)
		}
	}
	c := num(1)
	for range 11 {
		c = add(c, c)
	}
	number(t, c, "2048")
	// the same parts in two places, of which each has other variables around
	parts := []api.Lam{add(at(1), num(1))}
	neg := api.Lam{Kind: api.LOp, N: api.OpNeg, L: parts}
	number(t, add(let(1, num(5), neg), let(9, num(0), let(1, num(7), neg))), "-14")
	may(t, add(let(1, num(5), neg), let(2, num(7), neg)), false)
}

// R1: what is far around is found in few steps, however much is bound.
func TestMuchAround(t *testing.T) {
	const many, params = 600, 29
	c := loop(1, many*params, num(1), num(100000), seq(at(0), at(params*many/2), at(params*many/3), at(params*many-1)))
	for i := range many {
		all := []api.Lam{fun(params*(many-1-i), params, c)}
		for k := range params {
			all = append(all, num(i64(k)))
		}
		c = app(all...)
	}
	p := program(c)
	if got := lam.Run(p, nil, enough); !lam.May(p) || got != done("") {
		t.Errorf("got %+v", got)
	}
}
