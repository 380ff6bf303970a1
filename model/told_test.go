package model_test

import (
	"testing"

	"grapnel/api"
	"grapnel/core"
	"grapnel/infer"
	"grapnel/model"
	"grapnel/parse"
)

// enough is more fuel than the programs need that come to an end.
const enough = 1000000

// head declares what the expressions of the tests name.
const head = "type t = A | B of int | C of t * t | D " +
	"type r = {x : int; mutable y : t; mutable z : int} " +
	"exception N exception E of string exception P of int * t "

// resolved tells what is declared, and a source's core.
func resolved(t *testing.T, s string) (api.Decls, api.Core) {
	t.Helper()
	n, e, at := parse.Parse(s)
	if e != api.OK {
		t.Fatalf("%s: parse tells %d at %d", s, e, at)
	}
	d, c, e, at := core.Resolve(n)
	if e != api.OK {
		t.Fatalf("%s: core tells %d at %d", s, e, at)
	}
	return d, c
}

// isTyped holds that a program has a type.
func isTyped(t *testing.T, s string) {
	t.Helper()
	d, c := resolved(t, s)
	if _, e, at := infer.Infer(d, c); e != api.OK {
		t.Errorf("%s: infer tells %d at %d", s, e, at)
	}
}

func run(t *testing.T, s string, fuel int64, lines ...string) model.Ending {
	t.Helper()
	d, c := resolved(t, s)
	return model.Run(d, c, lines, fuel)
}

// comes holds that a program has this ending.
func comes(t *testing.T, s string, want model.Ending, lines ...string) {
	t.Helper()
	if got := run(t, s, enough, lines...); got != want {
		t.Errorf("%s: got %+v, want %+v", s, got, want)
	}
}

func done(out string) model.Ending { return model.Ending{Kind: model.Ended, Out: out} }

func uncaught(exn, out string) model.Ending {
	return model.Ending{Kind: model.Uncaught, Exn: exn, Out: out}
}

func wrong(out string) model.Ending { return model.Ending{Kind: model.Wrong, Out: out} }

// shows holds that a program, behind the head, has a type, comes to a value, and has written this.
func shows(t *testing.T, s, want string) {
	t.Helper()
	isTyped(t, head+s)
	comes(t, head+s, done(want))
}

// prints holds so of an expression of the type unit.
func prints(t *testing.T, s, want string) {
	t.Helper()
	shows(t, "let _ = "+s, want)
}

// number holds that an expression of the type int comes to this.
func number(t *testing.T, s, want string) {
	t.Helper()
	prints(t, "print_int ("+s+")", want)
}

// raises holds that an expression has a type, and that nobody catches what it raises.
func raises(t *testing.T, s, exn, out string) {
	t.Helper()
	isTyped(t, head+"let _ = "+s)
	comes(t, head+"let _ = "+s, uncaught(exn, out))
}

// takes holds that an expression, in `let _ = `, takes so much fuel: with 1 less the run is out of fuel. The KMatch and the `()` of the let take two more.
func takes(t *testing.T, s string, fuel int64) {
	t.Helper()
	isNeeded(t, head+"let _ = "+s, fuel+2)
}

// isNeeded holds that a program is at its end with so much fuel, and out of fuel with 1 less.
func isNeeded(t *testing.T, s string, fuel int64) {
	t.Helper()
	want := run(t, s, enough)
	if want.Kind == model.OutOfFuel {
		t.Fatalf("%s: has no end", s)
	}
	if got := run(t, s, fuel); got != want {
		t.Errorf("%s: with %d got %+v, want %+v", s, fuel, got, want)
	}
	if got := run(t, s, fuel-1); got.Kind != model.OutOfFuel {
		t.Errorf("%s: with %d got %+v", s, fuel-1, got)
	}
}
