package lam_test

import (
	"testing"

	"grapnel/api"
	"grapnel/lam"
)

// digits tells 100 times one variable, 10 times the next, and the last one, behind a dot.
func digits(v int) api.Lam {
	return seq(write("."), add(op(api.OpMul, at(v), num(100)), add(op(api.OpMul, at(v+1), num(10)), at(v+2))))
}

// P13.1: a function of n parameters with fewer, just as many and more arguments.
func TestAsManyArguments(t *testing.T) {
	in := func(c api.Lam) api.Lam { return let(1, fun(10, 3, digits(10)), c) }
	f := at(1)
	number(t, in(app(f, num(1), num(2), num(3))), ".123")
	number(t, in(app(app(f, num(1)), num(2), num(3))), ".123")
	number(t, in(app(app(f, num(1), num(2)), num(3))), ".123")
	number(t, in(app(app(app(f, num(1)), num(2)), num(3))), ".123")
	shows(t, in(seq(f, app(f, num(1)), app(f, num(1), num(2)), app(app(f, num(1)), num(2)), mark(5))), "5")
	number(t, app(fun(10, 1, fun(11, 1, fun(12, 1, digits(10)))), num(1), num(2), num(3)), ".123")
	number(t, app(fun(10, 2, fun(12, 1, digits(10))), num(1), num(2), num(3)), ".123")
	number(t, app(fun(10, 1, fun(11, 2, digits(10))), num(1), num(2), num(3)), ".123")
	number(t, app(app(fun(10, 2, fun(12, 3, add(digits(10), add(op(api.OpMul, at(13), num(1000)), op(api.OpMul, at(14), num(10000)))))), num(1)), num(2), num(3), num(4), num(5)), ".54123")
	number(t, let(1, fun(2, 1, at(2)), app(at(1), at(1), at(1), at(1), num(4))), "4")
	all := []api.Lam{fun(1, 30, add(at(1), at(30)))}
	for i := range int64(29) {
		all = append(all, num(i+1))
	}
	number(t, app(app(all...), num(100)), "101")
	number(t, app(append([]api.Lam{fun(1, 29, add(at(1), at(29)))}, all[1:]...)...), "30")
}

// With more than n arguments it is applied to the first n ahead of the others, and what it raises or writes comes at that place.
func TestMoreArguments(t *testing.T) {
	f := fun(1, 1, seq(say(at(1)), fun(2, 1, seq(say(at(2)), fun(3, 1, say(at(3)))))))
	shows(t, app(f, num(1), num(2), num(3)), "123")
	shows(t, app(f, marked(4, num(1)), marked(5, num(2)), marked(6, num(3))), "654123")
	comes(t, app(fun(1, 1, raise(num(exnN))), num(1), mark(2)), uncaught("N", "2"))
	shows(t, try(app(fun(1, 1, raise(num(exnN))), num(1), mark(2)), 5, mark(3)), "23")
	comes(t, app(fun(1, 1, call(api.BExit, at(1))), num(7), mark(2)), lam.Ending{Kind: lam.Ended, Code: 7, Out: "2"})
	comes(t, app(fun(1, 1, mark(5)), num(1), num(2)), wrong("5"))
	comes(t, app(fun(1, 2, mark(5)), num(1), num(2), num(3), num(4)), wrong("5"))
	number(t, rec(1, fun(2, 2, branch(at(2), app(at(1), less(at(2))), fun(5, 1, add(at(3), at(5))))), app(at(1), num(0), num(3), num(4))), "7")
}

// Pieces of functions keep what they have apart from each other.
func TestPieces(t *testing.T) {
	sum := add(app(at(4), num(6)), add(at(5), at(6)))
	for _, one := range []struct {
		v, of int
		arg   int64
	}{{6, 3, 5}, {5, 3, 4}, {4, 2, 3}, {3, 2, 2}, {2, 1, 1}} {
		sum = let(one.v, app(at(one.of), num(one.arg)), sum)
	}
	number(t, let(1, fun(10, 3, digits(10)), sum), "...385")
	count := fun(10, 3, seq(op(api.OpAssign, at(10), add(op(api.OpDeref, at(10)), at(11))), add(op(api.OpMul, op(api.OpDeref, at(10)), num(10)), at(12))))
	number(t, let(1, count, let(2, app(at(1), op(api.OpRef, num(0))), let(3, app(at(1), op(api.OpRef, num(100))), let(4, app(at(2), num(1)), add(add(app(at(4), num(2)), app(at(4), num(1))), app(at(3), num(1), num(1))))))), "1044")
}

// What is no function isn't applied, and that is told behind the arguments.
func TestNoFunctions(t *testing.T) {
	for _, c := range []api.Lam{num(1), text("a"), block(0), block(200-1, num(1)), op(api.OpRef, fun(1, 1, num(1)))} {
		comes(t, app(c, num(1)), wrong(""))
		comes(t, app(marked(1, c), mark(2), mark(3)), wrong("321"))
		comes(t, try(app(c, num(1)), 5, mark(7)), wrong(""))
	}
}
