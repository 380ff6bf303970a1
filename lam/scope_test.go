package lam_test

import (
	"testing"

	"grapnel/api"
)

// P13.1: a variable stands only where it is bound.
func TestBound(t *testing.T) {
	a := num(1)
	f := func(body api.Lam) api.Lam { return fun(50, 1, body) }
	for _, one := range []struct {
		c    api.Lam
		want bool
	}{
		{at(1), false}, {at(0), false}, {let(1, a, at(1)), true}, {let(1, at(1), a), false}, {let(1, a, at(2)), false}, {let(1, a, at(0)), false}, {seq(let(1, a, at(1)), at(1)), false}, {seq(at(1), let(1, a, a)), false},
		{let(1, a, let(2, at(1), add(at(1), at(2)))), true}, {let(1, let(2, a, at(2)), at(2)), false}, {let(0, a, at(0)), true}, {let(most, a, at(most)), true}, {let(1, a, at(-1)), false}, {let(1, a, at(1+1<<32)), false},
		{fun(4, 3, add(at(4), add(at(5), at(6)))), true}, {fun(4, 3, at(7)), false}, {fun(4, 3, at(3)), false}, {app(fun(4, 1, at(4)), at(4)), false}, {let(1, a, fun(4, 1, add(at(1), at(4)))), true}, {seq(fun(4, 1, a), at(4)), false},
		{rec(1, f(at(1)), at(1)), true}, {rec(1, f(at(2)), f(at(1)), add(at(1), at(2))), true}, {rec(1, f(at(2)), at(1)), false}, {rec(1, f(a), at(50)), false}, {rec(1, f(a), f(at(50)), at(2)), true}, {rec(1, f(a), at(3)), false}, {rec(1, f(a), at(0)), false}, {seq(rec(1, f(a), a), at(1)), false},
		{rec(1, fun(50, 2, at(51)), fun(60, 1, at(51)), a), false},
		{loop(1, 3, a, a, at(3)), true}, {loop(1, 3, at(3), a, a), false}, {loop(1, 3, a, at(3), a), false}, {seq(loop(1, 3, a, a, a), at(3)), false}, {let(1, a, loop(0, 3, at(1), at(1), add(at(1), at(3)))), true},
		{try(a, 3, at(3)), true}, {try(at(3), 3, a), false}, {let(1, a, try(at(1), 3, add(at(1), at(3)))), true}, {seq(try(a, 3, a), at(3)), false},
		{catch(1, []int64{3, 5}, a, add(at(3), at(5))), true}, {catch(1, []int64{3, 5}, at(3), a), false}, {catch(1, []int64{3, 5}, a, at(4)), false}, {catch(1, nil, a, at(1)), false}, {catch(1, []int64{3}, exit(1, at(3)), a), false}, {seq(catch(1, []int64{3}, a, a), at(3)), false},
		{let(1, a, catch(1, []int64{3}, exit(1, at(1)), add(at(1), at(3)))), true}, {choose([]int64{1}, nil, a, let(1, a, at(1)), at(1)), false}, {branch(let(1, a, a), at(1), a), false}, {let(1, a, branch(at(1), at(1), at(1))), true}, {while(let(1, a, at(1)), at(1)), false}, {block(0, let(1, a, a), at(1)), false},
	} {
		may(t, one.c, one.want)
	}
}

// P13.1: a variable isn't bound where it is bound already, nor twice in one place; elsewhere it may be bound anew.
func TestBoundTwice(t *testing.T) {
	a := num(1)
	binders := map[string]func(v int, first, inner api.Lam) api.Lam{ // first is outside, inner within what is bound
		"let": func(v int, first, inner api.Lam) api.Lam { return let(v, first, inner) }, "fun": func(v int, first, inner api.Lam) api.Lam { return app(fun(v, 1, inner), first) }, "second": func(v int, first, inner api.Lam) api.Lam { return app(fun(v-1, 2, inner), first) },
		"last": func(v int, first, inner api.Lam) api.Lam { return app(fun(v-29, 30, inner), first) }, "rec": func(v int, first, inner api.Lam) api.Lam { return seq(first, rec(v, fun(777, 1, a), inner)) }, "within": func(v int, first, inner api.Lam) api.Lam {
			return seq(first, rec(v-1, fun(777, 1, a), fun(777, 1, inner), a))
		},
		"for": func(v int, first, inner api.Lam) api.Lam { return loop(1, v, first, first, inner) }, "try": func(v int, first, inner api.Lam) api.Lam { return try(first, v, inner) }, "catch": func(v int, first, inner api.Lam) api.Lam { return catch(1, []int64{555, int64(v)}, first, inner) },
	}
	for outer, f := range binders {
		for name, g := range binders {
			if outer == "catch" && name == "catch" {
				continue // there the LCatches' numbers matter, too
			}
			c := f(100, g(100, a, at(100)), at(100))
			may(t, c, true)
			may(t, f(100, a, g(100, a, at(100))), false)
			may(t, f(100, a, g(100, a, a)), false)
			may(t, f(100, a, g(100, at(100), a)), false)
			may(t, f(100, a, seq(at(100), block(0, a, g(100, a, a)))), false)
			if name != "within" && outer != "within" && name != "last" && outer != "last" && name != "rec" && outer != "rec" { // those bind others as well
				may(t, f(100, a, g(300, a, add(at(100), at(300)))), true)
			}
			may(t, seq(f(100, a, at(100)), g(100, a, at(100))), true)
			may(t, fun(100, 1, seq(at(100), g(100, a, a))), false)
		}
	}
	may(t, fun(1, 3, fun(3, 1, a)), false)
	may(t, fun(1, 3, fun(4, 1, a)), true)
	may(t, fun(4, 1, fun(1, 3, a)), true)
	may(t, fun(3, 1, fun(1, 3, a)), false)
	may(t, fun(0, 30, fun(29, 30, a)), false)
	may(t, fun(0, 30, fun(30, 30, a)), true)
	for _, one := range []struct {
		ns   []int64
		want bool
	}{{[]int64{4, 4}, false}, {[]int64{4, 5, 4}, false}, {[]int64{5, 4}, true}, {[]int64{-1}, false}, {[]int64{4, -1}, false}, {[]int64{0, most}, true}, {[]int64{0, most + 1}, false}, {[]int64{1 << 32}, false}} {
		may(t, catch(1, one.ns, a, a), one.want)
	}
	may(t, rec(1, fun(1, 1, a), a), false)
	may(t, rec(1, fun(2, 1, a), fun(5, 1, a), a), false)
	may(t, rec(1, fun(3, 1, a), fun(3, 1, a), let(3, a, a)), true)
	may(t, rec(1, fun(3, 1, a), fun(4, 1, a), let(2, a, a)), false)
}

// P13.1: an LExit leads to an LCatch in whose first part it stands, and has as many parts as that has Ns.
func TestExits(t *testing.T) {
	a := num(1)
	for _, one := range []struct {
		c    api.Lam
		want bool
	}{
		{exit(1), false}, {exit(0), false}, {catch(1, nil, exit(1), a), true}, {catch(0, nil, exit(0), a), true}, {catch(1, nil, exit(2), a), false}, {catch(1, nil, a, exit(1)), false}, {seq(catch(1, nil, a, a), exit(1)), false}, {catch(1, nil, exit(-1), a), false}, {catch(1, nil, exit(1+1<<32), a), false},
		{catch(1, nil, exit(1, a), a), false}, {catch(1, []int64{5}, exit(1, a), a), true}, {catch(1, []int64{5}, exit(1), a), false}, {catch(1, []int64{5}, exit(1, a, a), a), false}, {catch(1, []int64{5, 6, 7}, exit(1, a, a, a), a), true}, {catch(1, []int64{5, 6, 7}, exit(1, a, a), a), false},
		{catch(1, []int64{5}, seq(exit(1, a), exit(1, a), exit(1, exit(1, a))), a), true}, {catch(1, []int64{5}, seq(exit(1, a), exit(1)), a), false},
		{catch(1, nil, catch(2, []int64{5}, seq(exit(1), exit(2, a)), exit(1)), a), true}, {catch(1, nil, catch(2, []int64{5}, a, exit(2, a)), a), false}, {catch(1, nil, catch(2, nil, a, a), exit(2)), false}, {catch(1, nil, catch(2, []int64{5}, exit(1, a), a), a), false}, {catch(1, nil, seq(catch(2, nil, a, a), exit(2)), a), false},
		// functions
		{catch(1, nil, fun(1, 1, exit(1)), a), false}, {catch(1, nil, app(fun(1, 1, a), exit(1)), a), true}, {catch(1, nil, app(exit(1), exit(1)), a), true}, {fun(1, 1, catch(1, nil, exit(1), a)), true}, {catch(1, nil, rec(1, fun(2, 1, exit(1)), a), a), false}, {catch(1, nil, rec(1, fun(2, 1, a), exit(1)), a), true},
		{catch(1, nil, seq(fun(1, 1, a), exit(1)), a), true}, {catch(1, nil, seq(fun(1, 1, catch(2, nil, exit(2), a)), exit(1)), a), true}, {catch(1, nil, seq(fun(1, 1, catch(2, nil, a, a)), exit(2)), a), false}, {catch(1, nil, fun(1, 1, catch(2, nil, exit(1), a)), a), false}, {catch(1, nil, fun(1, 1, fun(2, 1, exit(1))), a), false},
		// tries
		{catch(1, nil, try(exit(1), 1, a), a), false}, {catch(1, nil, try(a, 1, exit(1)), a), true}, {try(catch(1, nil, exit(1), a), 1, a), true}, {try(a, 1, catch(1, nil, exit(1), a)), true}, {try(catch(1, nil, a, a), 1, exit(1)), false}, {catch(1, nil, seq(try(a, 1, a), exit(1)), a), true},
		{catch(1, nil, try(try(a, 1, exit(1)), 2, a), a), false}, {catch(1, nil, try(a, 2, try(a, 1, exit(1))), a), true}, {catch(1, nil, try(a, 2, try(exit(1), 1, a)), a), false}, {try(catch(1, nil, try(exit(1), 1, a), a), 2, a), false}, {try(catch(1, nil, try(a, 1, exit(1)), a), 2, a), true},
		{catch(1, nil, try(seq(catch(2, nil, exit(2), a), a), 1, exit(1)), a), true}, {catch(1, nil, try(catch(2, nil, exit(1), a), 1, a), a), false}, {catch(1, nil, try(catch(2, nil, a, exit(1)), 1, a), a), false}, {try(fun(1, 1, catch(1, nil, exit(1), a)), 1, a), true}, {catch(1, nil, try(fun(1, 1, try(a, 2, exit(1))), 1, a), a), false},
		{catch(1, nil, catch(2, nil, try(exit(2), 1, exit(1)), a), a), false}, {catch(1, nil, catch(2, nil, try(a, 1, seq(exit(1), exit(2))), a), a), true},
		// each kind of node around an exit
		{catch(1, nil, let(1, exit(1), exit(1)), a), true}, {catch(1, nil, block(0, exit(1), of(api.LField, 0, exit(1)), of(api.LSet, 0, exit(1), exit(1))), a), true}, {catch(1, nil, block(0, of(api.LAt, 0, exit(1), exit(1)), of(api.LPut, 0, exit(1), exit(1), exit(1))), a), true}, {catch(1, nil, block(0, op(api.OpNeg, exit(1)), say(exit(1)), branch(exit(1), exit(1), exit(1))), a), true},
		{catch(1, nil, choose([]int64{1}, []int64{1}, exit(1), exit(1), exit(1), exit(1)), a), true}, {catch(1, nil, block(0, while(exit(1), exit(1)), loop(1, 1, exit(1), exit(1), exit(1)), raise(exit(1))), a), true},
	} {
		may(t, one.c, one.want)
	}
}

// P13.1: an LCatch has not the number of one in whose first part it stands, in the same function.
func TestCatchesOfOneNumber(t *testing.T) {
	a := num(1)
	inner := catch(1, nil, exit(1), a)
	for _, one := range []struct {
		c    api.Lam
		want bool
	}{
		{catch(1, nil, inner, a), false}, {catch(1, nil, a, inner), true}, {catch(2, nil, inner, a), true}, {seq(inner, inner), true}, {catch(1, nil, seq(a, inner), a), false}, {catch(1, nil, catch(2, nil, inner, a), a), false}, {catch(1, nil, catch(2, nil, a, inner), a), false}, {catch(1, nil, a, catch(2, nil, a, inner)), true},
		{catch(1, nil, catch(2, nil, a, a), catch(2, nil, a, inner)), true}, {catch(1, nil, seq(catch(2, nil, a, a), catch(2, nil, exit(2), exit(1))), a), true}, {catch(2, nil, catch(1, nil, a, inner), a), true},
		{catch(1, nil, fun(1, 1, inner), a), true}, {catch(1, nil, fun(1, 1, catch(1, nil, inner, a)), a), false}, {catch(1, nil, seq(fun(1, 1, inner), inner), a), false}, {catch(1, nil, rec(1, fun(2, 1, inner), a), a), true}, {catch(1, nil, rec(1, fun(2, 1, a), inner), a), false}, {fun(1, 1, catch(1, nil, fun(2, 1, inner), inner)), true},
		{catch(1, nil, try(inner, 1, a), a), false}, {catch(1, nil, try(a, 1, inner), a), false}, {try(inner, 1, inner), true}, {catch(1, nil, fun(1, 1, try(inner, 2, a)), a), true}, {catch(1, nil, app(fun(1, 1, a), inner), a), false}, {catch(0, nil, catch(most, nil, a, a), a), true}, {catch(most, nil, catch(most, nil, a, a), a), false},
		{catch(1, nil, seq(fun(1, 1, inner), exit(1)), a), true}, {catch(1, nil, seq(fun(1, 1, inner), exit(1, a)), a), false}, {catch(1, []int64{7}, seq(fun(1, 1, inner), exit(1, a)), a), true},
	} {
		may(t, one.c, one.want)
	}
	may(t, let(1, a, catch(1, []int64{2}, exit(1, at(1)), at(2))), true) // variables and catches have numbers apart
}
