package lam_test

import (
	"math"
	"strings"
	"testing"

	"grapnel/api"
	"grapnel/lam"
)

// P13.1: each node that begins to be worked out takes 1; with 1 less the run is out of fuel.
func TestFuelOfEachKind(t *testing.T) {
	a, no := num(1), num(0)
	one := block(0, a)
	ref := func(c api.Lam) api.Lam { return let(1, op(api.OpRef, num(2)), c) }
	down := op(api.OpAssign, at(1), less(op(api.OpDeref, at(1)))) // 6
	for _, x := range []struct {
		c    api.Lam
		fuel int64
	}{
		{a, 1}, {text("a"), 1}, {let(1, a, at(1)), 3}, {fun(1, 1, seq(a, a)), 1}, {block(0), 1}, {block(0, a, a), 3},
		{app(fun(1, 1, at(1)), a), 4}, {app(fun(1, 2, at(1)), a, a), 5}, {app(fun(1, 2, at(1)), a), 3}, {app(app(fun(1, 2, at(1)), a), a), 6}, {app(fun(1, 1, fun(2, 1, at(1))), a, a), 6}, {app(fun(1, 2, fun(3, 1, at(1))), a, a, a), 7},
		{rec(1, fun(2, 1, a), a), 2}, {rec(1, fun(9, 1, a), fun(9, 1, a), fun(9, 1, a), at(2)), 2}, {rec(1, fun(2, 1, at(2)), app(at(1), a)), 5}, {rec(1, fun(2, 1, at(2)), fun(3, 1, a)), 2},
		{of(api.LField, 0, one), 3}, {of(api.LSet, 0, one, a), 4}, {of(api.LAt, 0, one, no), 4}, {of(api.LPut, 0, one, no, a), 5}, {op(api.OpNeg, a), 2}, {add(a, a), 3}, {op(api.OpRef, a), 2}, {call(api.BToText, a), 2}, {call(api.BMake, a, a), 3}, {say(a), 2},
		{branch(a, a, seq(a, a)), 3}, {branch(no, seq(a, a), a), 3}, {choose(nil, nil, a, a), 3}, {choose([]int64{1, 2}, []int64{1}, a, a, seq(a, a), seq(a, a), seq(a, a)), 3}, {choose([]int64{1, 2}, []int64{0}, one, seq(a, a), seq(a, a), a, seq(a, a)), 4},
		{catch(1, nil, a, seq(a, a)), 2}, {catch(1, nil, exit(1), a), 3}, {catch(1, []int64{5, 6}, exit(1, a, a), at(5)), 5}, {catch(1, nil, seq(a, exit(1)), a), 5}, {catch(1, nil, add(seq(a, a), exit(1)), a), 4}, {catch(1, nil, catch(2, nil, exit(1), a), a), 4},
		{seq(a, a), 3}, {seq(a, a, a), 5}, {while(no, a), 2}, {ref(while(op(api.OpDeref, at(1)), down)), 3 + 1 + 3*2 + 2*6}, {loop(1, 1, a, no, seq(a, a)), 3}, {loop(1, 1, a, num(3), at(1)), 6}, {loop(0, 1, a, num(1), seq(a, a)), 6},
		{try(a, 1, seq(a, a)), 2}, {try(raise(a), 1, at(1)), 4}, {try(try(raise(a), 1, raise(at(1))), 2, a), 7}, {try(op(api.OpDiv, a, no), 1, a), 5}, {try(add(seq(a, a), raise(a)), 1, a), 5},
		// ends
		{raise(a), 2}, {call(api.BExit, a), 2}, {op(api.OpDiv, a, no), 3}, {call(api.BLine, no), 2}, {of(api.LField, 1, one), 3}, {of(api.LAt, 0, one, a), 4}, {app(a, a), 3}, {add(a, text("a")), 3}, {app(fun(1, 1, a), a, a), 5}, {add(seq(a, a), call(api.BExit, a)), 3},
	} {
		takes(t, x.c, x.fuel)
	}
}

// Of no fuel, or less, nothing is done; of a program that may not be it is Wrong at all fuels.
func TestNoFuel(t *testing.T) {
	for kind := api.LInt; kind <= api.LRaise; kind++ {
		c := least(kind)
		if kind == api.LVar || kind == api.LExit {
			c = around(c)
		}
		for _, fuel := range []int64{0, -1, -99, math.MinInt64} {
			if got := lam.Run(program(c), []string{"a"}, fuel); got != (lam.Ending{Kind: lam.OutOfFuel}) {
				t.Errorf("kind %d: with %d got %+v", kind, fuel, got)
			}
			if got := lam.Run(program(seq(c, at(1))), []string{"a"}, fuel); got != wrong("") {
				t.Errorf("kind %d: with %d got %+v", kind, fuel, got)
			}
		}
		if kind == api.LWhile { // this one has no end
			continue
		}
		if got := lam.Run(program(c), []string{"a"}, math.MaxInt64); got.Kind == lam.OutOfFuel {
			t.Errorf("kind %d: got %+v", kind, got)
		}
	}
}

func TestFuelExample(t *testing.T) {
	p := program(seq(mark(1), call(api.BPrint, call(api.BLine, num(0))), mark(2)))
	for fuel, want := range []lam.Ending{
		0: {Kind: lam.OutOfFuel}, 3: {Kind: lam.OutOfFuel}, 4: {Kind: lam.OutOfFuel, Out: "1"}, 8: {Kind: lam.OutOfFuel, Out: "1"}, 9: {Kind: lam.OutOfFuel, Out: "1a", Read: 1}, 12: {Kind: lam.OutOfFuel, Out: "1a2", Read: 1}, 13: {Kind: lam.Ended, Out: "1a2", Read: 1}, 14: {Kind: lam.Ended, Out: "1a2", Read: 1},
	} {
		if want.Kind == 0 {
			continue
		}
		if got := lam.Run(p, []string{"a", "b"}, int64(fuel)); got != want {
			t.Errorf("with %d: got %+v, want %+v", fuel, got, want)
		}
	}
}

// A run without an end is out of fuel, however much there was, and has written and read what it could.
func TestOutOfFuel(t *testing.T) {
	a := num(1)
	self := func(body api.Lam) api.Lam { return rec(1, fun(2, 1, body), app(at(1), a)) }
	for _, c := range []api.Lam{
		while(a, a), self(app(at(1), at(2))), self(add(a, app(at(1), at(2)))), self(try(app(at(1), at(2)), 3, app(at(1), at(2)))), self(catch(1, nil, app(at(1), at(2)), a)), self(catch(1, nil, seq(app(at(1), at(2)), exit(1)), a)), self(catch(1, nil, exit(1), app(at(1), at(2)))), self(try(raise(a), 3, app(at(1), at(2)))),
		self(app(at(1), block(0, at(2)))), self(app(at(1), op(api.OpCat, text("a"), text("")))), self(app(at(1), call(api.BMake, num(4096), at(2)))), rec(1, fun(3, 1, app(at(2), at(3))), fun(3, 1, seq(app(at(1), at(3)), a)), app(at(1), a)), let(1, fun(2, 1, app(at(2), at(2))), app(at(1), at(1))),
	} {
		for _, fuel := range []int64{1, 10, 1000, 20000} {
			if got := lam.Run(program(c), nil, fuel); got != (lam.Ending{Kind: lam.OutOfFuel}) || !lam.May(program(c)) {
				t.Errorf("%s: with %d got %+v", shown(c), fuel, got)
			}
		}
	}
	c := try(while(a, call(api.BPrint, call(api.BLine, a))), 3, while(a, mark(1)))
	got := lam.Run(program(c), []string{"a", "b"}, 1000)
	if got.Kind != lam.OutOfFuel || got.Read != 2 || !strings.HasPrefix(got.Out, "ab111") || strings.Trim(got.Out, "1") != "ab" {
		t.Errorf("%+v", got)
	}
}

// R1: a great many calls that wait, or stand last, and endings that come of great fuel, within some hundred megabytes.
func TestGreatFuel(t *testing.T) {
	a := num(1)
	self := func(body api.Lam) api.Lam { return rec(1, fun(2, 1, body), app(at(1), a)) }
	for _, c := range []api.Lam{
		self(add(a, app(at(1), at(2)))), loop(1, 1, a, num(mostInt), a), self(app(at(1), add(at(2), a))), self(catch(1, []int64{5}, app(at(1), add(at(2), a)), a)), self(try(app(at(1), at(2)), 3, a)),
		rec(1, fun(2, 2, app(at(1), add(at(2), a), fun(5, 1, at(2)))), app(at(1), a, a)), self(catch(1, []int64{5}, exit(1, add(at(2), a)), app(at(1), at(5)))),
	} {
		if got := lam.Run(program(c), nil, 4000000); got != (lam.Ending{Kind: lam.OutOfFuel}) {
			t.Errorf("%s: got %+v", shown(c), got)
		}
	}
}

// Recursions of many calls within each other.
func TestDeepRecursions(t *testing.T) {
	for n, want := range map[int64]string{10: "10", 5000: "5000", 60000: "60000"} {
		body := func(c api.Lam) api.Lam { return rec(1, fun(2, 1, branch(at(2), c, num(0))), app(at(1), num(n))) }
		again := app(at(1), less(at(2)))
		number(t, body(add(num(1), again)), want)
		number(t, body(try(raise(add(num(1), again)), 3, at(3))), want)
		number(t, body(catch(1, []int64{3}, exit(1, add(again, num(1))), at(3))), want)
		number(t, body(let(3, again, add(at(3), num(1)))), want)
		number(t, body(app(fun(3, 1, add(at(3), num(1))), again)), want)
		comes(t, body(branch(less(at(2)), add(num(1), again), raise(num(exnN)))), uncaught("N", ""))
		number(t, rec(1, fun(3, 1, branch(at(3), add(num(1), app(at(2), less(at(3)))), num(0))), fun(3, 1, branch(at(3), add(num(1), app(at(1), less(at(3)))), num(0))), app(at(1), num(n))), want)
	}
}
