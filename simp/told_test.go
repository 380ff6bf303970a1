package simp_test

import (
	"fmt"
	"math/rand"
	"reflect"
	"slices"
	"strings"
	"testing"

	"grapnel/api"
	"grapnel/lam"
	"grapnel/simp"
)

// enough is more fuel than the programs need that come to an end.
const enough = 200000

// The ends of what a number may be.
const (
	leastInt = -1 << 62
	mostInt  = 1<<62 - 1
)

func pick[T any](r *rand.Rand, all ...T) T { return all[r.Intn(len(all))] }

func i64(n int) int64 { return int64(n) }

// exns tells the built-in exceptions, and two others.
func exns() []api.Con {
	return []api.Con{
		{Name: "Match_failure"}, {Name: "Division_by_zero", N: 1}, {Name: "Invalid_argument", N: 2}, {Name: "End_of_file", N: 3}, {Name: "Not_found", N: 4}, {Name: "Failure", Of: []api.Type{{S: "string"}}},
		{Name: "N", N: 5}, {Name: "E", N: 1, Of: []api.Type{{S: "list", L: []api.Type{{S: "array", L: []api.Type{{S: "int"}}}}}}},
	}
}

// program tells the program of a body.
func program(body api.Lam) api.Lams { return api.Lams{Exns: exns(), Body: body} }

// of tells a node that has nothing but a number and parts.
func of(kind int, n int64, parts ...api.Lam) api.Lam { return api.Lam{Kind: kind, N: n, L: parts} }

func num(n int64) api.Lam { return of(api.LInt, n) }

func text(s string) api.Lam { return api.Lam{Kind: api.LText, S: s} }

func at(v int) api.Lam { return api.Lam{Kind: api.LVar, V: v} }

func fun(v int, params int64, body api.Lam) api.Lam {
	return api.Lam{Kind: api.LFun, N: params, V: v, L: []api.Lam{body}}
}

func app(parts ...api.Lam) api.Lam { return of(api.LApp, 0, parts...) }

func let(v int, a, b api.Lam) api.Lam { return api.Lam{Kind: api.LLet, V: v, L: []api.Lam{a, b}} }

// rec tells an LRec of functions, and what they are bound in.
func rec(v int, parts ...api.Lam) api.Lam {
	return api.Lam{Kind: api.LRec, N: int64(len(parts) - 1), V: v, L: parts}
}

func block(tag int64, parts ...api.Lam) api.Lam { return of(api.LBlock, tag, parts...) }

func op(n int64, parts ...api.Lam) api.Lam { return of(api.LOp, n, parts...) }

func add(a, b api.Lam) api.Lam { return op(api.OpAdd, a, b) }

func less(a api.Lam) api.Lam { return op(api.OpSub, a, num(1)) }

func call(n int64, parts ...api.Lam) api.Lam { return of(api.LCall, n, parts...) }

func branch(a, b, c api.Lam) api.Lam { return of(api.LIf, 0, a, b, c) }

func choose(ns, ts []int64, parts ...api.Lam) api.Lam {
	return api.Lam{Kind: api.LSwitch, Ns: ns, Ts: ts, L: parts}
}

func catch(n int64, ns []int64, a, b api.Lam) api.Lam {
	return api.Lam{Kind: api.LCatch, N: n, Ns: ns, L: []api.Lam{a, b}}
}

func exit(n int64, parts ...api.Lam) api.Lam { return of(api.LExit, n, parts...) }

// seq tells LSeqs of what is to be worked out one behind the other.
func seq(parts ...api.Lam) api.Lam {
	if len(parts) == 1 {
		return parts[0]
	}
	return of(api.LSeq, 0, parts[0], seq(parts[1:]...))
}

func while(a, b api.Lam) api.Lam { return of(api.LWhile, 0, a, b) }

// loop tells an LFor, up (1) or down (0).
func loop(up int64, v int, a, b, c api.Lam) api.Lam {
	return api.Lam{Kind: api.LFor, N: up, V: v, L: []api.Lam{a, b, c}}
}

func try(a api.Lam, v int, b api.Lam) api.Lam {
	return api.Lam{Kind: api.LTry, V: v, L: []api.Lam{a, b}}
}

func raise(a api.Lam) api.Lam { return of(api.LRaise, 0, a) }

func say(a api.Lam) api.Lam { return call(api.BPrintInt, a) }

// read tells a number that no one knows ahead of the run.
func read() api.Lam { return call(api.BToInt, call(api.BLine, num(0))) }

// listed tells all nodes of a lambda form.
func listed(c *api.Lam) []*api.Lam {
	all := []*api.Lam{c}
	for i := 0; i < len(all); i++ {
		for k := range all[i].L {
			all = append(all, &all[i].L[k])
		}
	}
	return all
}

func nodes(c api.Lam) int64 {
	n := int64(1)
	for _, p := range c.L {
		n += nodes(p)
	}
	return n
}

// alike tells a node in which a list without elements is none.
func alike(c api.Lam) api.Lam {
	l := c.L
	c.L, c.Ns, c.Ts = nil, append([]int64(nil), c.Ns...), append([]int64(nil), c.Ts...)
	for _, p := range l {
		c.L = append(c.L, alike(p))
	}
	return c
}

func equal(a, b api.Lam) bool { return reflect.DeepEqual(alike(a), alike(b)) }

// shown tells a program or a part of it, or its beginning, for who reads what failed.
func shown(c any) string {
	s := fmt.Sprint(c)
	return s[:min(len(s), 2000)]
}

// follows tells what of P15.2 doesn't hold of a program and what has become of it, with so much fuel; "": all of it does.
func follows(p, q api.Lams, lines []string, fuel int64) string {
	was, is := lam.Run(p, lines, fuel), lam.Run(q, lines, fuel)
	if was.Kind != lam.OutOfFuel && is != was || !strings.HasPrefix(is.Out, was.Out) || is.Read < was.Read {
		return fmt.Sprintf("with %d: %+v, then %+v", fuel, was, is)
	}
	return ""
}

// differs tells what of P15.1 and P15.2 doesn't hold of a program that may be; "": all of it does.
func differs(p api.Lams, lines []string, fuels ...int64) string {
	q, e := simp.Of(p)
	switch {
	case e != api.OK:
		return fmt.Sprintf("it tells %d", e)
	case !lam.May(q):
		return "what it tells may not be"
	case !reflect.DeepEqual(q.Exns, p.Exns):
		return "the exceptions are others"
	case nodes(q.Body) > nodes(p.Body):
		return "there are more nodes"
	case !simp.Clean(q) || !cleanPlainly(&q.Body):
		return "what it tells isn't clean"
	case simp.Clean(p) != cleanPlainly(&p.Body):
		return fmt.Sprintf("Clean tells %v", simp.Clean(p))
	case simp.Clean(p) && !equal(p.Body, q.Body):
		return "what was clean has changed"
	}
	if again, e := simp.Of(q); e != api.OK || !reflect.DeepEqual(again, q) {
		return fmt.Sprintf("once more it tells %d, %s", e, shown(again.Body))
	}
	for _, fuel := range fuels {
		if w := follows(p, q, lines, fuel); w != "" {
			return w
		}
	}
	return ""
}

// all tells the fuels up to some hundred, and great ones.
func all(upTo int64) []int64 {
	fuels := []int64{-1, 1000, 5000, enough}
	for fuel := range upTo {
		fuels = append(fuels, fuel)
	}
	return fuels
}

// becomes holds P15.1 and P15.2 of a body, and that it becomes another one, which may be itself.
func becomes(t *testing.T, body, want api.Lam, lines ...string) {
	t.Helper()
	p := program(body)
	if !lam.May(p) {
		t.Fatalf("%s may not be", shown(body))
	}
	if w := differs(p, lines, all(200)...); w != "" {
		t.Errorf("%s: %s", shown(body), w)
	}
	if q, _ := simp.Of(p); !equal(q.Body, want) {
		t.Errorf("%s: got %s, want %s", shown(body), shown(q.Body), shown(want))
	}
	if clean := equal(body, want); simp.Clean(p) != clean {
		t.Errorf("%s: Clean doesn't tell %v", shown(body), clean)
	}
}

// stays holds that a body is clean.
func stays(t *testing.T, body api.Lam, lines ...string) {
	t.Helper()
	becomes(t, body, body, lines...)
}

// refused holds that a program may not be.
func refused(t *testing.T, p api.Lams) {
	t.Helper()
	q, e := simp.Of(p)
	if e != api.ErrForm || !reflect.DeepEqual(q, api.Lams{}) || simp.Clean(p) || lam.May(p) {
		t.Errorf("%s: got %d, Clean tells %v", shown(p), e, simp.Clean(p))
	}
}

// kinds counts the nodes of some kinds.
func kinds(c api.Lam, of ...int) int {
	many := 0
	for _, x := range listed(&c) {
		if slices.Contains(of, x.Kind) {
			many++
		}
	}
	return many
}
