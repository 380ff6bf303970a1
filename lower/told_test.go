package lower_test

import (
	"fmt"
	"slices"
	"strings"
	"testing"

	"grapnel/api"
	"grapnel/core"
	"grapnel/infer"
	"grapnel/lam"
	"grapnel/lower"
	"grapnel/model"
	"grapnel/parse"
)

// enough is more fuel than the programs need that come to an end.
const enough = 200000

// head declares what the expressions of the tests name.
const head = "type t = A | B of int | C of t * t | D " +
	"type r = {x : int; mutable y : t; mutable z : int} " +
	"type w = W of int * string type u = U | V type l = L " +
	"exception N exception E of string exception P of int * t "

// resolved tells what is declared, and a source's core; false: it is none.
func resolved(s string) (api.Decls, api.Core, bool) {
	n, e, _ := parse.Parse(s)
	if e != api.OK {
		return api.Decls{}, api.Core{}, false
	}
	d, c, e, _ := core.Resolve(n)
	return d, c, e == api.OK
}

// typed tells what is declared, and the core of a source that has a type.
func typed(t *testing.T, s string) (api.Decls, api.Core) {
	t.Helper()
	d, c, ok := resolved(s)
	if !ok {
		t.Fatalf("%s: is no core", s)
	}
	if _, e, at := infer.Infer(d, c); e != api.OK {
		t.Fatalf("%s: infer tells %d at %d", s, e, at)
	}
	return d, c
}

// lowered tells the program of what has a type.
func lowered(t *testing.T, s string) api.Lams {
	t.Helper()
	d, c := typed(t, s)
	p, e := lower.Of(d, c)
	if e != api.OK || !lam.May(p) {
		t.Fatalf("%s: lower tells %d, it may be: %v", s, e, lam.May(p))
	}
	return p
}

// counted counts a core's nodes.
func counted(c api.Core) int64 {
	many := int64(1)
	for _, p := range c.L {
		many += counted(p)
	}
	return many
}

// ending is what model and lam tell alike.
type ending struct {
	Kind, Code int
	Exn, Out   string
	Read       int
}

func done(out string) ending { return ending{Kind: model.Ended, Out: out} }

func uncaught(exn, out string) ending { return ending{Kind: model.Uncaught, Exn: exn, Out: out} }

// both is a core, and its program; most is the greatest fuel that they are asked with.
type both struct {
	d     api.Decls
	c     api.Core
	p     api.Lams
	lines []string
	most  int64
}

func (b both) model(fuel int64) ending { return ending(model.Run(b.d, b.c, b.lines, fuel)) }

func (b both) lam(fuel int64) ending { return ending(lam.Run(b.p, b.lines, fuel)) }

func isBeginning(a, b ending) bool { return strings.HasPrefix(b.Out, a.Out) && a.Read <= b.Read }

// agree tells whether one has written a beginning of what the other one has, and so what was read; none may be Wrong.
func agree(a, b ending) bool {
	return (isBeginning(a, b) || isBeginning(b, a)) && a.Kind != model.Wrong && b.Kind != lam.Wrong
}

// needs tells how much fuel a run needs for its end: up to most it has come to one.
func needs(most int64, ends func(int64) bool) int64 {
	least := int64(0)
	for least < most {
		if mid := (least + most) / 2; ends(mid) {
			most = mid
		} else {
			least = mid + 1
		}
	}
	return least
}

// differs tells what of P14.1 and P14.2 doesn't hold of a core and its program, at fuels up to some hundred and at great ones; "": all of it does.
func (b both) differs(fuels int64) string {
	if !lam.May(b.p) {
		return "it may not be"
	}
	last := b.model(b.most)
	all := []int64{-1, b.most}
	for fuel := range fuels {
		all = append(all, fuel)
	}
	var told []ending
	for _, fuel := range all {
		m, l := b.model(fuel), b.lam(fuel)
		told = append(told, l)
		if !agree(m, l) || !agree(last, l) || !agree(m, told[1%len(told)]) {
			return fmt.Sprintf("with %d: %+v, %+v", fuel, m, l)
		}
		if l.Kind != lam.OutOfFuel && m.Kind != model.OutOfFuel && l != m || l.Kind != lam.OutOfFuel && last.Kind != model.OutOfFuel && l != last {
			return fmt.Sprintf("with %d: %+v, %+v, at the end %+v", fuel, m, l, last)
		}
	}
	if last.Kind == model.OutOfFuel {
		return ""
	}
	n := needs(b.most, func(n int64) bool { return b.model(n).Kind != model.OutOfFuel })
	if l := b.lam(20 * (n + 1) * (counted(b.c) + 10)); l != last {
		return fmt.Sprintf("%d fuel are needed: %+v, %+v", n, last, l)
	}
	return ""
}

// holds holds P14.1 and P14.2 of a source that has a type, and tells what comes of it.
func holds(t *testing.T, s string, lines ...string) ending {
	t.Helper()
	d, c := typed(t, s)
	p, e := lower.Of(d, c)
	b := both{d, c, p, lines, enough}
	if w := b.differs(300); e != api.OK || w != "" {
		t.Errorf("%s: lower tells %d: %s: %s", s, e, w, shown(p.Body))
	}
	return b.lam(enough * 20)
}

// shown tells a program or a part of it, or its beginning, for who reads what failed.
func shown(c any) string {
	s := fmt.Sprint(c)
	return s[:min(len(s), 3000)]
}

// comes holds that a program, behind the head, has this ending.
func comes(t *testing.T, s string, want ending, lines ...string) {
	t.Helper()
	if got := holds(t, head+s, lines...); got != want {
		t.Errorf("%s: got %+v, want %+v", s, got, want)
	}
}

// prints holds that an expression of the type unit writes this.
func prints(t *testing.T, s, want string) {
	t.Helper()
	comes(t, "let _ = "+s, done(want))
}

// number holds that an expression of the type int comes to this.
func number(t *testing.T, s, want string) {
	t.Helper()
	prints(t, "print_int ("+s+")", want)
}

// raises holds that nobody catches what an expression raises.
func raises(t *testing.T, s, exn, out string) {
	t.Helper()
	comes(t, "let _ = "+s, uncaught(exn, out))
}

// listed tells all nodes of a lambda form.
func listed(c api.Lam) []api.Lam {
	all := []api.Lam{c}
	for _, p := range c.L {
		all = append(all, listed(p)...)
	}
	return all
}

// kinds counts the nodes of some kinds.
func kinds(c api.Lam, of ...int) int {
	many := 0
	for _, x := range listed(c) {
		if slices.Contains(of, x.Kind) {
			many++
		}
	}
	return many
}
