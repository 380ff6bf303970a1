package lam_test

import (
	"fmt"
	"testing"

	"grapnel/api"
	"grapnel/lam"
)

// enough is more fuel than the programs need that come to an end.
const enough = 1000000

// The exceptions of the tests' programs: the built-in ones, and these.
const (
	exnN = 5 // without anything: N
	exnE = 1 // of something: E
)

// builtIn tells the exceptions that are built in.
func builtIn() []api.Con {
	return []api.Con{{Name: "Match_failure"}, {Name: "Division_by_zero", N: 1}, {Name: "Invalid_argument", N: 2}, {Name: "End_of_file", N: 3}, {Name: "Not_found", N: 4}, {Name: "Failure", Of: []api.Type{{S: "string"}}}}
}

func exns() []api.Con {
	return append(builtIn(), api.Con{Name: "N", N: exnN}, api.Con{Name: "E", N: exnE, Of: []api.Type{{S: "string"}}})
}

// program tells the program of a body.
func program(body api.Lam) api.Lams { return api.Lams{Exns: exns(), Body: body} }

// of tells a node that has nothing but a number and parts.
func of(kind int, n int64, parts ...api.Lam) api.Lam { return api.Lam{Kind: kind, N: n, L: parts} }

func num(n int64) api.Lam { return of(api.LInt, n) }

func text(s string) api.Lam { return api.Lam{Kind: api.LText, S: s} }

func at(v int) api.Lam { return api.Lam{Kind: api.LVar, V: v} }

func fun(v int, params int64, body api.Lam) api.Lam {
	return api.Lam{Kind: api.LFun, N: params, V: v, L: []api.Lam{body}}
}

func app(parts ...api.Lam) api.Lam { return of(api.LApp, 0, parts...) }

func let(v int, a, b api.Lam) api.Lam { return api.Lam{Kind: api.LLet, V: v, L: []api.Lam{a, b}} }

// rec tells an LRec of functions, and what they are bound in.
func rec(v int, parts ...api.Lam) api.Lam {
	return api.Lam{Kind: api.LRec, N: int64(len(parts) - 1), V: v, L: parts}
}

func block(tag int64, parts ...api.Lam) api.Lam { return of(api.LBlock, tag, parts...) }

func op(n int64, parts ...api.Lam) api.Lam { return of(api.LOp, n, parts...) }

func add(a, b api.Lam) api.Lam { return op(api.OpAdd, a, b) }

func less(a api.Lam) api.Lam { return op(api.OpSub, a, num(1)) }

func call(n int64, parts ...api.Lam) api.Lam { return of(api.LCall, n, parts...) }

func branch(a, b, c api.Lam) api.Lam { return of(api.LIf, 0, a, b, c) }

func choose(ns, ts []int64, parts ...api.Lam) api.Lam {
	return api.Lam{Kind: api.LSwitch, Ns: ns, Ts: ts, L: parts}
}

func catch(n int64, ns []int64, a, b api.Lam) api.Lam {
	return api.Lam{Kind: api.LCatch, N: n, Ns: ns, L: []api.Lam{a, b}}
}

func exit(n int64, parts ...api.Lam) api.Lam { return of(api.LExit, n, parts...) }

// seq tells LSeqs of what is to be worked out one behind the other.
func seq(parts ...api.Lam) api.Lam {
	if len(parts) == 1 {
		return parts[0]
	}
	return of(api.LSeq, 0, parts[0], seq(parts[1:]...))
}

func while(a, b api.Lam) api.Lam { return of(api.LWhile, 0, a, b) }

// loop tells an LFor, up (1) or down (0).
func loop(up int64, v int, a, b, c api.Lam) api.Lam {
	return api.Lam{Kind: api.LFor, N: up, V: v, L: []api.Lam{a, b, c}}
}

func try(a api.Lam, v int, b api.Lam) api.Lam {
	return api.Lam{Kind: api.LTry, V: v, L: []api.Lam{a, b}}
}

func raise(a api.Lam) api.Lam { return of(api.LRaise, 0, a) }

func say(a api.Lam) api.Lam { return call(api.BPrintInt, a) }

func write(s string) api.Lam { return call(api.BPrint, text(s)) }

// mark tells a node that writes a number, and comes to it.
func mark(n int64) api.Lam { return marked(n, num(n)) }

// marked tells a node that writes a number, and then comes to what another one comes to.
func marked(n int64, a api.Lam) api.Lam { return seq(say(num(n)), a) }

func done(out string) lam.Ending { return lam.Ending{Kind: lam.Ended, Out: out} }

func uncaught(exn, out string) lam.Ending {
	return lam.Ending{Kind: lam.Uncaught, Exn: exn, Out: out}
}

func wrong(out string) lam.Ending { return lam.Ending{Kind: lam.Wrong, Out: out} }

// shown tells a program or a part of it, or its beginning, for who reads what failed.
func shown(c any) string {
	s := fmt.Sprint(c)
	return s[:min(len(s), 1000)]
}

// comes holds that a body may be, and has this ending.
func comes(t *testing.T, body api.Lam, want lam.Ending, lines ...string) {
	t.Helper()
	p := program(body)
	if !lam.May(p) {
		t.Errorf("%s may not be", shown(body))
	}
	if got := lam.Run(p, lines, enough); got != want {
		t.Errorf("%s: got %+v, want %+v", shown(body), got, want)
	}
}

// shows holds that a body comes to a value, and has written this.
func shows(t *testing.T, body api.Lam, want string) {
	t.Helper()
	comes(t, body, done(want))
}

// number holds that a body comes to this number.
func number(t *testing.T, body api.Lam, want string) {
	t.Helper()
	shows(t, say(body), want)
}

// takes holds that a body is at its end with so much fuel, and out of fuel with 1 less.
func takes(t *testing.T, body api.Lam, fuel int64) {
	t.Helper()
	p := program(body)
	want := lam.Run(p, nil, enough)
	if want.Kind == lam.OutOfFuel || !lam.May(p) {
		t.Fatalf("%s: has no end, or may not be", shown(body))
	}
	if got := lam.Run(p, nil, fuel); got != want {
		t.Errorf("%s: with %d got %+v, want %+v", shown(body), fuel, got, want)
	}
	if got := lam.Run(p, nil, fuel-1); got.Kind != lam.OutOfFuel {
		t.Errorf("%s: with %d got %+v", shown(body), fuel-1, got)
	}
}

// may holds that a body may be, or that it may not, and is Wrong then, with nothing written.
func may(t *testing.T, body api.Lam, want bool) {
	t.Helper()
	isMay(t, program(body), want)
}

func isMay(t *testing.T, p api.Lams, want bool) {
	t.Helper()
	if lam.May(p) != want {
		t.Errorf("%s: May doesn't tell %v", shown(p.Body), want)
	}
	p.Body = seq(write("a"), p.Body)
	for _, fuel := range []int64{enough, 0} {
		if got := lam.Run(p, nil, fuel); !want && got != wrong("") || want && fuel > 0 && got.Out == "" {
			t.Errorf("%s: with %d got %+v", shown(p.Body), fuel, got)
		}
	}
}
