package lam_test

import (
	"testing"

	"grapnel/api"
)

// P13.1: an LExit's parts, from the right, are its LCatch's Ns in the second part, which is the LCatch's value then.
func TestExit(t *testing.T) {
	number(t, catch(1, nil, exit(1), num(5)), "5")
	number(t, catch(1, []int64{7}, exit(1, num(5)), at(7)), "5")
	number(t, catch(0, []int64{most}, exit(0, num(5)), at(most)), "5")
	number(t, add(num(1), catch(1, []int64{7}, add(num(100), exit(1, num(5))), add(at(7), num(10)))), "16")
	number(t, catch(1, []int64{7, 3, 5}, exit(1, mark(1), mark(2), mark(3)), add(op(api.OpMul, at(7), num(100)), add(op(api.OpMul, at(3), num(10)), at(5)))), "321123")
	number(t, catch(1, []int64{7}, exit(1, exit(1, add(num(1), exit(1, num(4))))), at(7)), "4")
	number(t, catch(1, []int64{7, 8}, exit(1, mark(1), seq(mark(2), exit(1, mark(3), mark(4)))), add(op(api.OpMul, at(7), num(10)), at(8))), "24334")
}

// An exit leaves all that is under way in the first part, and nothing else.
func TestExitsFromWithin(t *testing.T) {
	x := exit(1, num(5))
	for _, c := range []api.Lam{
		x, seq(mark(1), x, mark(2)), seq(x, mark(1)), let(2, x, num(1)), let(2, num(1), x), block(0, num(1), x, mark(1)), app(fun(2, 1, num(1)), x), app(x, mark(1)), app(fun(2, 1, mark(3)), num(1), x), of(api.LField, 0, x), of(api.LSet, 0, x, num(1)), of(api.LSet, 0, num(1), x),
		of(api.LAt, 0, x, mark(1)), of(api.LAt, 0, block(0), x), of(api.LPut, 0, x, num(1), num(1)), of(api.LPut, 0, num(1), x, mark(1)), of(api.LPut, 0, num(1), num(1), x), op(api.OpNeg, x), add(x, mark(1)), add(mark(1), x), say(x), call(api.BByte, x, num(1)), call(api.BCompare, num(1), x),
		branch(x, num(1), num(2)), branch(num(1), x, mark(2)), branch(num(0), mark(1), x), choose([]int64{1}, nil, x, num(1), num(2)), choose([]int64{1}, nil, num(1), x, mark(1)), choose([]int64{1}, nil, num(2), mark(1), x), while(x, num(1)), while(num(1), x), loop(1, 2, x, num(1), mark(1)), loop(1, 2, num(1), x, mark(1)), loop(1, 2, num(1), num(9), x),
		raise(x), try(raise(num(1)), 2, x), catch(2, nil, x, mark(1)), catch(2, nil, exit(2), x), catch(2, []int64{3}, exit(2, x), mark(1)), rec(2, fun(3, 1, mark(2)), x), let(2, fun(3, 1, mark(1)), seq(app(at(2), num(1)), x)),
		loop(1, 2, num(1), num(9), branch(op(api.OpEq, at(2), num(3)), x, mark(8))), let(2, op(api.OpRef, num(3)), while(num(1), seq(op(api.OpAssign, at(2), less(op(api.OpDeref, at(2)))), branch(op(api.OpDeref, at(2)), num(0), x)))),
	} {
		p := program(say(add(num(1000), catch(1, []int64{9}, c, add(at(9), num(1))))))
		want, ok := plainly(p, nil, enough)
		if !ok || want.Kind != 1 || want.Out[len(want.Out)-4:] != "1006" {
			t.Errorf("%s: %+v, by the plain run", shown(c), want)
		}
		comes(t, p.Body, want)
	}
}

// Exits through LCatches, out of tries that came to their end, and beside functions.
func TestExitsThrough(t *testing.T) {
	number(t, catch(1, nil, catch(2, nil, exit(1), num(2)), num(1)), "1")
	number(t, catch(1, nil, catch(2, nil, exit(2), exit(1)), num(1)), "1")
	number(t, catch(1, nil, catch(2, nil, exit(2), num(2)), num(1)), "2")
	number(t, catch(1, []int64{5}, add(catch(2, []int64{6}, exit(1, exit(2, num(3))), add(at(6), num(100))), num(1000)), at(5)), "1103")
	number(t, catch(1, nil, try(raise(num(3)), 5, branch(at(5), exit(1), num(2))), num(1)), "1")
	number(t, catch(1, nil, seq(try(mark(7), 5, num(2)), exit(1)), num(1)), "71")
	number(t, try(catch(1, nil, exit(1), raise(num(4))), 5, at(5)), "4")
	number(t, try(catch(1, nil, seq(raise(num(4)), exit(1)), num(1)), 5, at(5)), "4")
	number(t, catch(1, nil, try(try(raise(num(1)), 5, raise(num(2))), 6, seq(say(at(6)), exit(1))), num(9)), "29")
	// a raise behind an exit comes to the try that is around the LCatch
	number(t, try(catch(1, nil, try(raise(num(1)), 5, exit(1)), raise(num(8))), 6, at(6)), "8")
	number(t, try(catch(1, nil, block(0, exit(1), num(1)), block(0, raise(num(8)))), 6, at(6)), "8")
	// LCatches of one number, in other functions and beside each other
	number(t, catch(1, []int64{5}, app(fun(7, 1, catch(1, []int64{8}, exit(1, at(7)), add(at(8), num(1)))), exit(1, num(3))), add(at(5), num(100))), "103")
	number(t, catch(1, []int64{5}, add(app(fun(7, 1, catch(1, []int64{8}, exit(1, at(7)), add(at(8), num(1)))), num(3)), exit(1, num(50))), at(5)), "50")
	number(t, catch(1, []int64{5}, exit(1, app(fun(7, 1, catch(1, []int64{8}, exit(1, at(7)), add(at(8), num(1)))), num(3))), add(at(5), num(100))), "104")
	number(t, catch(1, nil, exit(1), catch(1, nil, exit(1), num(3))), "3")
	number(t, add(catch(1, nil, exit(1), num(3)), catch(1, nil, exit(1), num(40))), "43")
}

// In a recursion each call has LCatches of its own.
func TestExitsOfEachCall(t *testing.T) {
	// f n = catch (if n then 10 * f (n - 1) + exit n else exit 7) with x -> say x; n
	f := fun(2, 1, catch(1, []int64{5}, branch(at(2), add(exit(1, app(at(1), less(at(2)))), num(1)), exit(1, num(7))), seq(say(at(5)), at(2))))
	shows(t, rec(1, f, app(at(1), num(3))), "7012")
	g := fun(2, 1, catch(1, []int64{5}, branch(at(2), add(app(at(1), less(at(2))), exit(1, at(2))), num(1000)), at(5)))
	number(t, rec(1, g, app(at(1), num(3))), "3")
	h := fun(2, 1, catch(1, []int64{5}, branch(at(2), add(exit(1, at(2)), app(at(1), less(at(2)))), num(1000)), seq(say(at(5)), at(5))))
	shows(t, rec(1, h, app(at(1), num(3))), "123")
	// a function that an LCatch's first part comes to, called behind it, and a loop in whose rounds LCatches begin anew
	number(t, app(catch(1, []int64{5}, fun(2, 1, catch(1, nil, exit(1), add(at(2), num(1)))), fun(2, 1, num(0))), num(4)), "5")
	shows(t, loop(1, 2, num(1), num(4), catch(1, []int64{5}, branch(op(api.OpAnd, at(2), num(1)), exit(1, at(2)), say(num(0))), say(at(5)))), "1030")
	// what stands last in an LCatch's first part leaves nothing: a million calls of which each begins one
	number(t, rec(1, fun(2, 1, catch(1, []int64{5}, branch(at(2), app(at(1), less(at(2))), exit(1, num(7))), at(5))), app(at(1), num(100000))), "7")
}

// P13.1: what an LTry's first part raises is V in the second one; what that raises goes further.
func TestTry(t *testing.T) {
	number(t, try(raise(num(5)), 1, at(1)), "5")
	number(t, try(num(5), 1, num(6)), "5")
	number(t, of(api.LField, 1, try(raise(block(3, num(1), num(2))), 1, at(1))), "2")
	number(t, try(try(raise(num(5)), 1, raise(add(at(1), num(1)))), 2, add(at(2), num(10))), "16")
	number(t, try(try(num(4), 1, num(5)), 2, num(6)), "4")
	number(t, try(add(try(num(4), 1, num(5)), raise(num(7))), 2, at(2)), "7")
	number(t, add(num(1), try(add(num(2), raise(num(30))), 1, at(1))), "31")
	number(t, let(3, num(5), try(raise(num(30)), 1, add(at(1), at(3)))), "35")
	number(t, let(1, fun(2, 1, raise(at(2))), try(add(app(at(1), num(4)), num(1)), 3, op(api.OpMul, at(3), num(2)))), "8")
	number(t, let(1, text("a"), try(raise(at(1)), 2, op(api.OpEq, at(1), at(2)))), "1")
	number(t, app(try(raise(fun(2, 1, add(at(2), num(1)))), 1, at(1)), num(5)), "6")
	shows(t, try(seq(mark(1), raise(marked(2, num(3))), mark(4)), 1, say(at(1))), "123")
	comes(t, app(try(fun(1, 1, raise(at(1))), 2, num(1)), num(exnN)), uncaught("N", ""))
}

// A raise leaves all that is under way, wherever it is, LCatches' first parts and second ones, too.
func TestRaisesFromWithin(t *testing.T) {
	x := raise(num(exnN))
	for _, c := range []api.Lam{
		x, seq(x, mark(1)), let(2, x, mark(1)), let(2, num(1), x), block(0, num(1), x), app(fun(2, 1, mark(1)), x), app(x, num(1)), app(fun(2, 1, x), num(1)), app(fun(2, 1, fun(3, 1, x)), num(1), num(2)), of(api.LField, 0, x), of(api.LSet, 0, x, num(1)), of(api.LSet, 0, num(1), x),
		of(api.LAt, 0, x, num(1)), of(api.LAt, 0, block(0), x), of(api.LPut, 0, x, num(1), num(1)), of(api.LPut, 0, num(1), x, num(1)), of(api.LPut, 0, num(1), num(1), x), op(api.OpNeg, x), op(api.OpNot, x), op(api.OpRef, x), op(api.OpDeref, x), add(x, num(1)), add(num(1), x), op(api.OpEq, x, num(1)), op(api.OpCat, num(1), x), op(api.OpAssign, x, num(1)), say(x), call(api.BByte, x, num(1)), call(api.BCompare, num(1), x),
		branch(x, num(1), num(2)), branch(num(1), x, mark(2)), branch(num(0), mark(1), x), choose([]int64{1}, nil, x, num(1), num(2)), choose([]int64{1}, nil, num(1), x, mark(1)), choose([]int64{1}, nil, num(2), mark(1), x), while(x, num(1)), while(num(1), x), loop(1, 2, x, num(1), num(1)), loop(1, 2, num(1), x, num(1)), loop(1, 2, num(1), num(9), x),
		raise(x), try(x, 2, x), try(num(1), 2, mark(1)), catch(2, nil, x, mark(1)), catch(2, nil, exit(2), x), catch(2, []int64{3}, exit(2, x), mark(1)), rec(2, fun(3, 1, mark(2)), x), rec(2, fun(3, 1, branch(at(3), add(app(at(2), less(at(3))), num(1)), x)), app(at(2), num(5))),
		rec(2, fun(3, 1, catch(1, nil, branch(at(3), add(app(at(2), less(at(3))), num(1)), x), mark(7))), app(at(2), num(5))), catch(2, []int64{3}, catch(4, nil, catch(5, nil, x, exit(4)), mark(8)), num(1)), catch(2, nil, try(catch(3, nil, exit(3), x), 9, raise(at(9))), num(1)),
	} {
		if c.Kind == api.LTry && c.L[0].Kind == api.LInt {
			c = seq(c, x)
		}
		comes(t, c, uncaught("N", ""))
		shows(t, try(seq(c, mark(7)), 700, seq(say(at(700)), mark(8))), "58")
		number(t, try(add(try(seq(c, mark(7)), 700, add(at(700), num(100))), num(1000)), 800, num(-1)), "1105")
	}
}

// P13.1: what nobody catches is told by its exception's name: a number's is without anything, a block's tag's of something; what is no exception has none.
func TestUncaught(t *testing.T) {
	for n, s := range map[int64]string{0: "Match_failure", 1: "Division_by_zero", 2: "Invalid_argument", 3: "End_of_file", 4: "Not_found", 5: "N", 6: "", -1: "", mostInt: ""} {
		comes(t, seq(mark(1), raise(num(n))), uncaught(s, "1"))
	}
	for n, s := range map[int64]string{0: "Failure", 1: "E", 2: "", 5: "", 199: ""} {
		for _, c := range []api.Lam{block(n, text("a")), block(n), block(n, num(1), num(2))} {
			comes(t, seq(mark(1), raise(c)), uncaught(s, "1"))
		}
	}
	for _, c := range []api.Lam{text("N"), text(""), fun(1, 1, num(5))} {
		comes(t, seq(mark(1), raise(c)), uncaught("", "1"))
		shows(t, try(raise(c), 1, mark(2)), "2")
	}
}
