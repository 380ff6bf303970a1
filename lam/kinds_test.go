package lam_test

import (
	"testing"

	"grapnel/api"
	"grapnel/lam"
)

// The chapter's examples.
func TestExamples(t *testing.T) {
	comes(t, call(api.BPrintInt, op(api.OpAdd, num(1), num(2))), done("3"))
	comes(t, say(catch(5, []int64{2}, seq(exit(5, num(7)), num(1)), at(2))), done("7"))
	comes(t, catch(5, []int64{2}, seq(exit(5, num(7)), num(1)), call(api.BPrintInt, at(2))), done("7"))
	comes(t, call(api.BExit, choose([]int64{1}, []int64{1}, block(1, num(4)), num(10), num(20), num(30))), lam.Ending{Kind: lam.Ended, Code: 20})
}

// P13.1: what comes to a value is Ended with 0, whatever the value is.
func TestValuesAtTheEnd(t *testing.T) {
	for _, c := range []api.Lam{num(5), num(300), text("abc"), block(7), block(0, num(1), text("")), fun(1, 2, num(1)), app(fun(1, 2, num(1)), num(1)), op(api.OpRef, num(1)), at(9), while(num(0), num(1))} {
		comes(t, let(9, num(1), c), done(""))
	}
}

func TestConstants(t *testing.T) {
	number(t, num(0), "0")
	number(t, num(-12), "-12")
	number(t, num(mostInt), "4611686018427387903")
	number(t, num(-1<<62), "-4611686018427387904")
	shows(t, seq(write(""), write("a\"\\\n\t\x00\xff b")), "a\"\\\n\t\x00\xff b")
}

func TestVariables(t *testing.T) {
	number(t, let(1, num(5), at(1)), "5")
	number(t, let(1, num(5), let(2, add(at(1), num(1)), add(op(api.OpMul, at(1), num(10)), at(2)))), "56")
	number(t, let(most, num(5), let(0, num(6), add(op(api.OpMul, at(most), num(10)), at(0)))), "56")
	number(t, add(let(1, num(5), at(1)), let(1, num(20), at(1))), "25")
	number(t, let(1, let(2, num(3), add(at(2), num(1))), let(2, num(50), add(at(1), at(2)))), "54")
	number(t, app(fun(7, 3, add(op(api.OpMul, at(7), num(100)), add(op(api.OpMul, at(8), num(10)), at(9)))), num(1), num(2), num(3)), "123")
	number(t, catch(1, []int64{9, 3, 6}, exit(1, num(1), num(2), num(3)), add(op(api.OpMul, at(9), num(100)), add(op(api.OpMul, at(3), num(10)), at(6)))), "123")
}

// What is far around is found, whatever lies between.
func TestVariablesFarAround(t *testing.T) {
	const many = 60
	c := num(0)
	for i := range many {
		c = add(op(api.OpMul, c, num(2)), branch(op(api.OpEq, at(i), num(i64(i))), num(1), num(0)))
	}
	for i := many - 1; i >= 0; i-- {
		switch i % 6 {
		case 0:
			c = let(i, num(i64(i)), c)
		case 1:
			c = app(fun(i, 1, c), num(i64(i)))
		case 2:
			c = catch(i64(i), []int64{i64(i)}, exit(i64(i), num(i64(i))), c)
		case 3:
			c = try(raise(num(i64(i))), i, c)
		case 4:
			c = catch(1000, nil, let(i, num(i64(i)), catch(2000, nil, c, num(-1))), num(-1))
			c = app(fun(3000+i, 1, c), num(1))
		case 5:
			r := op(api.OpRef, num(-1))
			c = let(2000+i, r, seq(loop(1, i, num(i64(i)), num(i64(i)), op(api.OpAssign, at(2000+i), c)), op(api.OpDeref, at(2000+i))))
		}
	}
	number(t, c, "1152921504606846975")
}

func i64(n int) int64 { return int64(n) }

// Fields are places: what is changed under one name is changed under the other one, and in nothing that was made by itself.
func TestBlocks(t *testing.T) {
	two := block(3, num(5), num(6))
	field := func(n int64, a api.Lam) api.Lam { return of(api.LField, n, a) }
	number(t, field(0, two), "5")
	number(t, field(1, two), "6")
	number(t, call(api.BSize, two), "2")
	number(t, call(api.BSize, block(9)), "0")
	number(t, let(1, two, let(2, at(1), let(3, two, seq(of(api.LSet, 1, at(1), num(7)), of(api.LSet, 0, at(3), num(8)), add(op(api.OpMul, field(1, at(2)), num(10)), field(1, at(3))))))), "76")
	number(t, of(api.LSet, 0, two, num(3)), "0")
	number(t, let(1, block(0, num(1), block(0, num(2))), field(0, field(1, at(1)))), "2")
	for n := range int64(3) {
		want := done("12")
		if n > 1 {
			want = wrong("12")
		}
		comes(t, seq(mark(12), of(api.LField, n, two), num(1)), want)
		comes(t, seq(mark(12), of(api.LSet, n, two, num(1)), num(1)), want)
	}
	for _, c := range []api.Lam{num(0), num(1), text("abc"), fun(5, 1, num(1)), block(0)} {
		comes(t, seq(mark(1), of(api.LField, 0, c)), wrong("1"))
		comes(t, seq(mark(1), of(api.LSet, 0, c, num(1))), wrong("1"))
		comes(t, try(of(api.LField, 0, c), 1, mark(1)), wrong(""))
	}
	comes(t, of(api.LField, 4095, two), wrong(""))
	wide := make([]api.Lam, 4096)
	for i := range wide {
		wide[i] = num(i64(i))
	}
	number(t, field(4095, block(199, wide...)), "4095")
	number(t, field(17, block(199, wide...)), "17")
}

func TestElements(t *testing.T) {
	three := block(0, num(5), num(6), num(7))
	get := func(a, i api.Lam) api.Lam { return of(api.LAt, 0, a, i) }
	put := func(a, i, c api.Lam) api.Lam { return of(api.LPut, 0, a, i, c) }
	number(t, get(three, num(0)), "5")
	number(t, get(three, num(2)), "7")
	number(t, get(block(77, num(1)), num(0)), "1")
	number(t, put(three, num(0), num(1)), "0")
	number(t, let(1, three, seq(put(at(1), num(2), num(9)), put(at(1), num(0), num(8)), add(add(op(api.OpMul, get(at(1), num(0)), num(100)), op(api.OpMul, get(at(1), num(1)), num(10))), get(at(1), num(2))))), "869")
	for _, i := range []int64{-1, 3, 4, mostInt, -1 << 62} {
		comes(t, get(three, marked(1, num(i))), uncaught("Invalid_argument", "1"))
		comes(t, put(three, num(i), mark(2)), uncaught("Invalid_argument", "2"))
		number(t, try(get(three, num(i)), 1, at(1)), "2")
		number(t, try(put(three, num(i), num(1)), 1, at(1)), "2")
	}
	comes(t, get(block(0), num(0)), uncaught("Invalid_argument", ""))
	comes(t, put(block(0), num(0), num(1)), uncaught("Invalid_argument", ""))
	for _, c := range []api.Lam{num(1), text("abc"), fun(5, 1, num(1))} {
		for _, i := range []int64{0, -1, 7} {
			comes(t, get(c, num(i)), wrong(""))
			comes(t, put(c, num(i), num(1)), wrong(""))
		}
	}
	for _, i := range []api.Lam{text("0"), three, fun(5, 1, num(1))} {
		comes(t, get(three, i), wrong(""))
		comes(t, get(num(1), i), wrong(""))
		comes(t, put(three, i, num(1)), wrong(""))
	}
}

// P13.1: 0 is no, all else is yes.
func TestConditions(t *testing.T) {
	for _, c := range []api.Lam{num(1), num(2), num(-1), num(mostInt), text(""), text("0"), block(0), block(0, num(0)), fun(5, 1, num(0))} {
		shows(t, branch(c, mark(1), mark(2)), "1")
		shows(t, let(1, op(api.OpRef, c), while(op(api.OpDeref, at(1)), seq(mark(1), op(api.OpAssign, at(1), num(0))))), "1")
	}
	shows(t, branch(num(0), mark(1), mark(2)), "2")
	shows(t, branch(while(num(0), num(1)), mark(1), mark(2)), "2")
	number(t, branch(num(0), num(1), num(2)), "2")
}

func TestSwitch(t *testing.T) {
	ns, ts := []int64{-4, 0, 7}, []int64{0, 5, 199}
	on := func(c api.Lam) api.Lam {
		return choose(ns, ts, c, mark(1), mark(2), mark(3), mark(4), mark(5), mark(6), mark(9))
	}
	for _, one := range []struct {
		c    api.Lam
		want string
	}{
		{num(-4), "11"}, {num(0), "22"}, {num(7), "33"}, {num(-5), "99"}, {num(5), "99"}, {num(1), "99"}, {num(8), "99"}, {num(199), "99"}, {num(mostInt), "99"}, {num(-1 << 62), "99"},
		{block(0), "44"}, {block(0, num(7)), "44"}, {block(5, num(1), num(2)), "55"}, {block(199), "66"}, {block(7), "99"}, {block(1, num(0)), "99"}, {block(198), "99"}, {op(api.OpRef, num(0)), "44"}, {call(api.BMake, num(3), num(5)), "44"},
		{text(""), "99"}, {text("a"), "99"}, {fun(1, 1, num(0)), "99"}, {app(fun(1, 2, num(0)), num(0)), "99"},
	} {
		number(t, on(one.c), one.want)
	}
	number(t, choose(nil, nil, block(0), mark(1)), "11")
	number(t, choose(nil, nil, num(0), mark(1)), "11")
	number(t, choose(nil, []int64{3}, num(3), mark(1), mark(2)), "22")
	number(t, choose([]int64{3}, nil, block(3), mark(1), mark(2)), "22")
	number(t, choose([]int64{-1 << 63, 3, 1<<63 - 1}, nil, num(3), mark(1), mark(2), mark(3), mark(4)), "22")
	number(t, choose([]int64{-1 << 62, mostInt}, nil, num(mostInt), mark(1), mark(2), mark(3)), "22")
	shows(t, choose(nil, nil, mark(1), mark(2)), "12") // what is asked comes first
	number(t, let(1, block(5, num(3)), choose(nil, []int64{5}, at(1), of(api.LField, 0, at(1)), num(0))), "3")
	var all []int64
	parts := []api.Lam{block(150)}
	for i := range int64(200) {
		all = append(all, i)
		parts = append(parts, num(i))
	}
	number(t, choose(nil, all, append(parts, num(-1))...), "150")
	parts[0] = num(150)
	number(t, choose(all, nil, append(parts, num(-1))...), "150")
	number(t, choose(nil, all, append(parts, num(-1))...), "-1")
}

// Parts are worked out from the right, the last one first.
func TestFromTheRight(t *testing.T) {
	for _, one := range []struct {
		c    api.Lam
		want string
	}{
		{block(0, mark(1), mark(2), mark(3)), "321"}, {app(marked(1, fun(5, 2, num(0))), mark(2), mark(3)), "321"}, {app(marked(1, fun(5, 3, num(0))), mark(2), mark(3)), "321"}, {app(marked(1, fun(5, 1, fun(6, 1, num(0)))), mark(2), mark(3)), "321"},
		{of(api.LField, 0, marked(1, block(0, num(1)))), "1"}, {of(api.LSet, 0, marked(1, block(0, num(1))), mark(2)), "21"}, {of(api.LAt, 0, marked(1, block(0, num(1))), marked(2, num(0))), "21"}, {of(api.LPut, 0, marked(1, block(0, num(1))), marked(2, num(0)), mark(3)), "321"},
		{loop(1, 5, marked(1, num(9)), marked(2, num(8)), mark(3)), "21"}, {loop(0, 5, marked(1, num(8)), marked(2, num(8)), mark(3)), "213"}, {catch(1, []int64{5, 6, 7}, exit(1, mark(1), mark(2), mark(3)), mark(4)), "3214"}, {raisedAndCaught(mark(1)), "1"},
		{op(api.OpAssign, marked(1, op(api.OpRef, num(1))), mark(2)), "21"}, {op(api.OpCat, marked(1, text("")), marked(2, text(""))), "21"}, {op(api.OpNeg, mark(1)), "1"}, {op(api.OpNot, mark(1)), "1"}, {op(api.OpRef, mark(1)), "1"}, {op(api.OpDeref, marked(1, op(api.OpRef, num(1)))), "1"},
		{call(api.BByte, marked(1, text("a")), marked(2, num(0))), "21"}, {call(api.BMake, marked(1, num(0)), mark(2)), "21"}, {call(api.BCompare, mark(1), mark(2)), "21"}, {say(marked(1, num(5))), "15"},
	} {
		shows(t, one.c, one.want)
	}
	for _, n := range []int64{api.OpAdd, api.OpSub, api.OpMul, api.OpDiv, api.OpRem, api.OpAnd, api.OpOr, api.OpXor, api.OpShl, api.OpShr, api.OpLess, api.OpEq, api.OpNe, api.OpLt, api.OpGt, api.OpLe, api.OpGe} {
		shows(t, op(n, mark(1), mark(2)), "21")
	}
}

// raisedAndCaught tells a node that raises what another one comes to, and catches it.
func raisedAndCaught(c api.Lam) api.Lam { return try(raise(c), 999, num(0)) }

// Where something is chosen, it is worked out in the order in which it comes to be needed, and nothing else is.
func TestAsNeeded(t *testing.T) {
	for _, one := range []struct {
		c    api.Lam
		want string
	}{
		{let(5, mark(1), mark(2)), "12"}, {seq(mark(1), mark(2), mark(3)), "123"}, {branch(mark(1), mark(2), mark(3)), "12"}, {branch(marked(1, num(0)), mark(2), mark(3)), "13"}, {choose([]int64{2, 4}, nil, marked(1, num(4)), mark(2), mark(3), mark(4)), "13"},
		{choose([]int64{2, 4}, nil, marked(1, num(5)), mark(2), mark(3), mark(4)), "14"}, {try(mark(1), 5, mark(2)), "1"}, {try(raise(mark(1)), 5, mark(2)), "12"}, {catch(1, nil, mark(1), mark(2)), "1"}, {catch(1, nil, seq(mark(1), exit(1), mark(2)), mark(3)), "13"},
		{while(marked(1, num(0)), mark(2)), "1"}, {fun(5, 1, mark(1)), ""}, {rec(5, fun(9, 1, mark(1)), fun(9, 1, mark(2)), mark(3)), "3"}, {app(fun(5, 2, mark(1)), mark(2)), "2"}, {app(fun(5, 1, mark(1)), mark(2)), "21"},
		{let(1, op(api.OpRef, num(2)), while(marked(1, op(api.OpDeref, at(1))), seq(mark(2), op(api.OpAssign, at(1), less(op(api.OpDeref, at(1))))))), "12121"},
	} {
		shows(t, one.c, one.want)
	}
}

// An LLet, an LSeq, an LIf, an LCatch, an LTry come to what their last part comes to; an LSet, an LPut, an LWhile, an LFor to 0.
func TestWhatNodesComeTo(t *testing.T) {
	number(t, let(1, num(5), num(6)), "6")
	number(t, seq(num(5), num(6)), "6")
	number(t, catch(1, nil, num(5), num(6)), "5")
	number(t, catch(1, nil, exit(1), num(6)), "6")
	number(t, try(num(5), 1, num(6)), "5")
	number(t, try(raise(num(5)), 1, num(6)), "6")
	number(t, while(num(0), num(5)), "0")
	number(t, loop(1, 1, num(1), num(3), num(5)), "0")
	number(t, loop(0, 1, num(1), num(3), num(5)), "0")
	number(t, rec(1, fun(2, 1, at(2)), app(at(1), num(6))), "6")
}

func TestLoops(t *testing.T) {
	for _, one := range []struct {
		up, from, to int64
		want         string
	}{
		{1, 1, 3, "123"}, {0, 3, 1, "321"}, {1, -1, 2, "-1012"}, {1, 2, 2, "2"}, {0, 2, 2, "2"}, {1, 2, 1, ""}, {0, 1, 2, ""}, {0, 1, -2, "10-1-2"},
		{1, mostInt - 1, mostInt, "46116860184273879024611686018427387903"}, {0, 1 - 1<<62, -1 << 62, "-4611686018427387903-4611686018427387904"}, {1, mostInt, -1 << 62, ""}, {0, -1 << 62, mostInt, ""}, {1, mostInt, mostInt, "4611686018427387903"}, {0, -1 << 62, -1 << 62, "-4611686018427387904"},
	} {
		shows(t, loop(one.up, 1, num(one.from), num(one.to), say(at(1))), one.want)
	}
	// its bounds are asked once, and each time around has a variable of its own
	shows(t, let(1, op(api.OpRef, num(3)), loop(1, 2, num(1), op(api.OpDeref, at(1)), seq(op(api.OpAssign, at(1), num(0)), say(at(2))))), "123")
	shows(t, let(1, block(0, num(0), num(0), num(0)), seq(loop(1, 2, num(0), num(2), of(api.LPut, 0, at(1), at(2), fun(3, 1, say(add(at(2), at(3)))))), app(of(api.LField, 2, at(1)), num(10)), app(of(api.LField, 0, at(1)), num(20)))), "1220")
	shows(t, loop(1, 1, num(1), num(2), loop(0, 2, at(1), num(0), say(at(2)))), "10210")
	comes(t, loop(1, 1, num(1), num(5), branch(op(api.OpEq, at(1), num(3)), raise(num(exnN)), say(at(1)))), uncaught("N", "12"))
	shows(t, catch(9, []int64{8}, loop(1, 1, num(1), num(5), branch(op(api.OpEq, at(1), num(3)), exit(9, at(1)), say(at(1)))), say(op(api.OpNeg, at(8)))), "12-3")
	for _, c := range []api.Lam{text("1"), block(0), fun(5, 1, num(1))} {
		for _, up := range []int64{0, 1} {
			comes(t, loop(up, 1, c, num(1), mark(1)), wrong(""))
			comes(t, loop(up, 1, num(1), c, mark(1)), wrong(""))
			comes(t, loop(up, 1, c, c, mark(1)), wrong(""))
		}
	}
	comes(t, let(1, op(api.OpRef, num(100)), seq(while(op(api.OpDeref, at(1)), op(api.OpAssign, at(1), less(op(api.OpDeref, at(1))))), say(op(api.OpDeref, at(1))))), done("0"))
}

func TestRecs(t *testing.T) {
	sum := rec(1, fun(2, 1, branch(at(2), add(at(2), app(at(1), less(at(2)))), num(0))), app(at(1), num(100)))
	number(t, sum, "5050")
	even := rec(1, fun(3, 1, branch(at(3), app(at(2), less(at(3))), num(1))), fun(3, 1, branch(at(3), app(at(1), less(at(3))), num(0))), branch(app(at(1), num(101)), num(1), branch(app(at(2), num(101)), num(2), num(3))))
	number(t, even, "2")
	number(t, let(9, num(7), rec(1, fun(4, 1, branch(at(4), app(at(2), less(at(4))), at(9))), fun(4, 1, branch(at(4), app(at(3), less(at(4))), add(at(9), num(1)))), fun(4, 1, branch(at(4), app(at(1), less(at(4))), add(at(9), num(2)))), add(add(app(at(1), num(0)), op(api.OpMul, app(at(1), num(1)), num(10))), op(api.OpMul, app(at(1), num(2)), num(100))))), "987")
	var all []api.Lam
	for i := range 30 {
		all = append(all, fun(50, 1, branch(at(50), app(at(10+(i+7)%30), less(at(50))), num(i64(i)))))
	}
	number(t, rec(10, append(all, add(op(api.OpMul, app(at(10), num(11)), num(1000)), app(at(39), num(1000))))...), "17009")
	number(t, rec(1, fun(2, 2, at(3)), app(app(at(1), num(5)), num(6))), "6")
	comes(t, rec(1, fun(2, 1, at(1)), seq(app(at(1), num(1), num(2), num(3)), mark(4))), done("4"))
}

func TestCaptures(t *testing.T) {
	number(t, app(app(fun(1, 1, let(2, op(api.OpMul, at(1), num(2)), fun(3, 1, let(4, add(at(3), num(1)), fun(5, 1, add(at(1), add(op(api.OpMul, at(2), num(10)), add(op(api.OpMul, at(3), num(100)), add(op(api.OpMul, at(4), num(1000)), op(api.OpMul, at(5), num(10000))))))))))), num(1), num(2)), num(3)), "33221")
	number(t, let(1, let(2, num(3), fun(4, 1, add(at(2), at(4)))), let(2, num(100), app(at(1), at(2)))), "103")
	number(t, let(1, catch(5, []int64{2}, exit(5, num(3)), fun(4, 1, add(at(2), at(4)))), app(at(1), num(4))), "7")
	number(t, let(1, try(raise(num(3)), 2, fun(4, 1, add(at(2), at(4)))), app(at(1), num(4))), "7")
	// a function that was made within an LCatch's first part finds what is around that
	number(t, let(1, num(5), let(2, catch(5, nil, let(3, num(6), fun(4, 1, add(at(1), add(at(3), at(4))))), num(0)), app(at(2), num(100)))), "111")
}
