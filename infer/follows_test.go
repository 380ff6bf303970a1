package infer_test

import (
	"math/rand"
	"testing"

	"grapnel/api"
	"grapnel/core"
	"grapnel/infer"
	"grapnel/parse"
	"grapnel/types"
)

// made tells an expression that a seed makes up, and the type that it is made for; false: it is too great for a source.
func made(t *testing.T, seed, wild int) (string, api.Decls, api.Core, api.Type, bool) {
	t.Helper()
	m := newMaker(int64(seed), wild, 8+seed%40)
	want := m.some(2)
	s := m.expr(want)
	n, e, at := parse.Parse(head + s)
	if e == api.ErrSyntax || e == api.ErrToken {
		t.Fatalf("seed %d: %s: parse tells %d at %d", seed, s, e, at-len(head))
	}
	if e != api.OK {
		return s, api.Decls{}, api.Core{}, want, false
	}
	d, c, e, at := core.Resolve(n)
	if e != api.OK {
		t.Fatalf("seed %d: %s: core tells %d at %d", seed, s, e, at-len(head))
	}
	return s, d, c.L[0], want, true
}

// isInstance tells whether a type is another one with something for its variables.
func isInstance(is, of api.Type, by map[int]api.Type) bool {
	if of.V > 0 {
		known, ok := by[of.V]
		by[of.V] = is
		return !ok || same(known, is)
	}
	if is.S != of.S || len(is.L) != len(of.L) {
		return false
	}
	for i := range is.L {
		if !isInstance(is.L[i], of.L[i], by) {
			return false
		}
	}
	return true
}

func countKinds(c api.Core, kinds map[int]int) {
	kinds[c.Kind]++
	if c.Kind == api.KOp {
		kinds[1000+int(c.N)]++
	}
	if c.Kind == api.KBuiltin {
		kinds[2000+int(c.N)]++
	}
	for _, p := range c.L {
		countKinds(p, kinds)
	}
}

// P11.1: what has a type by the rules has one that is told, and each that it has is an instance of it.
func TestMostGeneral(t *testing.T) {
	kinds := map[int]int{}
	more := 0
	for seed := range 4000 {
		s, d, c, want, ok := made(t, seed, 0)
		if !ok {
			continue
		}
		got, e, at := infer.Infer(d, c)
		if e != api.OK || at != 0 || !isInstance(want, got, map[int]api.Type{}) {
			t.Fatalf("seed %d: %s: %s, %d at %d, made for %s", seed, s, types.Text(got), e, at-len(head), types.Text(want))
		}
		if types.Text(got) != types.Text(want) {
			more++
		}
		countKinds(c, kinds)
	}
	if more < 100 {
		t.Errorf("only %d are more general than what they are made for", more)
	}
	manyKinds(t, kinds)
}

// manyKinds holds that all kinds, operations and built-in functions that a source has were there.
func manyKinds(t *testing.T, kinds map[int]int) {
	t.Helper()
	for kind := api.KInt; kind <= api.QAs; kind++ {
		if (kind <= api.KOp || kind >= api.QAny) && kinds[kind] < 30 {
			t.Errorf("only %d of kind %d", kinds[kind], kind)
		}
	}
	for op := api.OpAdd; op <= api.OpAssign; op++ {
		if (op <= api.OpRem || op >= api.OpNeg) && kinds[1000+op] < 10 {
			t.Errorf("only %d of operation %d", kinds[1000+op], op)
		}
	}
	for n := api.BPrintInt; n <= api.BHash; n++ {
		if kinds[2000+n] < 10 {
			t.Errorf("only %d of function %d", kinds[2000+n], n)
		}
	}
}

// asModelled holds that Infer tells what the model tells.
func asModelled(t *testing.T, s string, d api.Decls, c api.Core) (api.Errno, bool) {
	t.Helper()
	want, f, ok := modelled(d, c)
	if !ok {
		return api.OK, false
	}
	got, e, at := infer.Infer(d, c)
	told := ""
	if e == api.OK {
		told = types.Text(got)
	}
	if e != f.e || at != f.at || told != want {
		t.Fatalf("%s:\ngot  %s, %d at %d\nwant %s, %d at %d", s, told, e, at-len(head), want, f.e, f.at-len(head))
	}
	return e, true
}

// P11.1: whatever the source, Infer tells what the model tells.
func TestAsTheModel(t *testing.T) {
	seen := map[api.Errno]int{}
	for seed := range 12000 {
		s, d, c, _, ok := made(t, seed, []int{0, 5, 10, 25, 60}[seed%5])
		if !ok {
			continue
		}
		if e, ok := asModelled(t, s, d, c); ok {
			seen[e]++
		}
	}
	for e, least := range map[api.Errno]int{api.OK: 3000, api.ErrType: 2000, api.ErrOccurs: 50} {
		if seen[e] < least {
			t.Errorf("only %d of %d: %v", seen[e], e, seen)
		}
	}
}

// closed tells whether no variable stands in a core that is bound outside: those from n on are bound within.
func closed(c api.Core, n int) bool {
	if c.Kind == api.KVar && c.V < n {
		return false
	}
	for _, p := range c.L {
		if !closed(p, n) {
			return false
		}
	}
	return true
}

// inner tells all expressions in a core in which no variable stands that is bound outside; n are bound around it.
func inner(c api.Core, n int, all []api.Core) []api.Core {
	if c.Kind < api.QAny && c.Kind != api.KCase && closed(c, n) {
		all = append(all, c)
	}
	for i, p := range c.L {
		around := n
		switch {
		case c.Kind == api.KFun || c.Kind == api.KRec:
			around += int(c.N)
		case c.Kind == api.KLet && i == 1 || c.Kind == api.KFor && i == 2:
			around++
		case c.Kind == api.KCase && i > 0:
			around += len(names(c.L[0], map[int]int{}))
		}
		all = inner(p, around, all)
	}
	return all
}

// names tells the variables that a pattern binds.
func names(c api.Core, all map[int]int) map[int]int {
	if c.Kind == api.QVar || c.Kind == api.QAs {
		all[c.V] = 1
	}
	for _, p := range c.L {
		names(p, all)
	}
	return all
}

// P11.1: an expression in a core in which no variable stands that is bound outside has its type, whatever the numbers of its variables.
func TestInnerExpressions(t *testing.T) {
	deep := 0
	for seed := range 1500 {
		s, d, c, _, ok := made(t, seed, seed%3*10)
		if !ok {
			continue
		}
		for _, x := range inner(c, 0, nil) {
			if _, ok := asModelled(t, s, d, x); ok && x.Kind == api.KFun && x.V > 0 {
				deep++
			}
		}
	}
	if deep < 500 {
		t.Errorf("only %d functions that stand deep", deep)
	}
}

// renumbered tells a core with other numbers of variables.
func renumbered(c api.Core, other func(int) int) api.Core {
	switch c.Kind {
	case api.KVar, api.KFun, api.KLet, api.KRec, api.KFor, api.QVar, api.QAs:
		c.V = other(c.V)
	}
	var parts []api.Core
	for _, p := range c.L {
		parts = append(parts, renumbered(p, other))
	}
	c.L = parts
	return c
}

// sameAnswer holds that two cores have the same type, or the same error at the same place.
func sameAnswer(t *testing.T, s string, d api.Decls, a, b api.Core) api.Errno {
	t.Helper()
	t1, e1, at1 := infer.Infer(d, a)
	t2, e2, at2 := infer.Infer(d, b)
	if !same(t1, t2) || e1 != e2 || at1 != at2 {
		t.Fatalf("%s:\n%s, %d at %d\n%s, %d at %d", s, types.Text(t1), e1, at1-len(head), types.Text(t2), e2, at2-len(head))
	}
	return e1
}

// P11.2: what has a type has it whatever its variables are called.
func TestOtherVariables(t *testing.T) {
	seen := map[api.Errno]int{}
	for seed := range 2000 {
		s, d, c, _, ok := made(t, seed, seed%3*10)
		if !ok {
			continue
		}
		for _, by := range []int{1, 7, 1000000, -5} {
			seen[sameAnswer(t, s, d, c, renumbered(c, func(v int) int { return v + by }))]++
		}
	}
	if seen[api.OK] < 1000 || seen[api.ErrType] < 300 {
		t.Errorf("only %v", seen)
	}
	for _, c := range [][2]string{
		{"fun x -> let y = x in fun z -> (x, y, z)", "fun a -> let a' = a in fun b -> (a, a', b)"},
		{"let id x = x in id id 1", "let x id = id in x x 1"},
		{"match [1] with x :: y -> y | z -> z", "match [1] with y :: x -> x | y -> y"},
	} {
		d, a := expression(t, c[0])
		_, b := expression(t, c[1])
		t1, e1, _ := infer.Infer(d, a)
		t2, e2, _ := infer.Infer(d, b)
		if !same(t1, t2) || e1 != api.OK || e2 != api.OK {
			t.Errorf("%s: %s, %d; %s: %s, %d", c[0], types.Text(t1), e1, c[1], types.Text(t2), e2)
		}
	}
}

// P11.2: not even a number that stands for another variable within matters: behind that it is what it was.
func TestHiddenVariables(t *testing.T) {
	one, text := api.Core{Kind: api.KInt}, api.Core{Kind: api.KText}
	v := api.Core{Kind: api.KVar, V: 3}
	add := api.Core{Kind: api.KOp, N: api.OpAdd, L: []api.Core{v, one}}
	cat := api.Core{Kind: api.KOp, N: api.OpCat, L: []api.Core{v, text}}
	seq := func(l ...api.Core) api.Core { return api.Core{Kind: api.KSeq, L: l} }
	for name, hiding := range map[string]api.Core{
		"fun":   {Kind: api.KFun, N: 1, V: 3, L: []api.Core{cat}},
		"let":   {Kind: api.KLet, V: 3, L: []api.Core{text, cat}},
		"plain": {Kind: api.KLet, V: 3, L: []api.Core{twice(text), cat}},
		"rec":   {Kind: api.KRec, N: 1, V: 3, L: []api.Core{{Kind: api.KFun, N: 1, V: 4, L: []api.Core{one}}, {Kind: api.KApp, L: []api.Core{v, text}}}},
		"match": {Kind: api.KMatch, L: []api.Core{text, {Kind: api.KCase, L: []api.Core{{Kind: api.QVar, V: 3}, cat}}}},
		"as":    {Kind: api.KMatch, L: []api.Core{text, {Kind: api.KCase, L: []api.Core{{Kind: api.QAs, V: 3, L: []api.Core{{Kind: api.QAny}}}, cat}}}},
		"try":   {Kind: api.KTry, L: []api.Core{one, {Kind: api.KCase, L: []api.Core{{Kind: api.QVar, V: 3}, {Kind: api.KRaise, L: []api.Core{v}}}}}},
	} {
		got, e, _ := infer.Infer(api.Decls{}, api.Core{Kind: api.KFun, N: 1, V: 3, L: []api.Core{seq(hiding, add)}})
		again, e2, _ := infer.Infer(api.Decls{}, api.Core{Kind: api.KFun, N: 1, V: 3, L: []api.Core{seq(add, seq(hiding, add))}})
		if e != api.OK || e2 != api.OK || types.Text(got) != "(int -> int)" || types.Text(again) != "(int -> int)" {
			t.Errorf("%s: %s, %d; %s, %d", name, types.Text(got), e, types.Text(again), e2)
		}
	}
	loop := api.Core{Kind: api.KFor, V: 3, L: []api.Core{one, one, add}}
	got, e, _ := infer.Infer(api.Decls{}, api.Core{Kind: api.KFun, N: 1, V: 3, L: []api.Core{seq(loop, cat)}})
	if e != api.OK || types.Text(got) != "(string -> string)" {
		t.Errorf("for: %s, %d", types.Text(got), e)
	}
}

// twice joins a text with itself, which is no value.
func twice(c api.Core) api.Core { return api.Core{Kind: api.KOp, N: api.OpCat, L: []api.Core{c, c}} }

// swapped tells a core in which each number, text and truth that is an expression stands, here and there, for something else of its type.
func swapped(r *rand.Rand, c api.Core) api.Core {
	if r.Intn(2) == 0 {
		switch {
		case c.Kind == api.KInt:
			return otherNumber(r, c)
		case c.Kind == api.KText:
			return api.Core{Kind: api.KApp, At: c.At, L: []api.Core{{Kind: api.KBuiltin, N: api.BToText}, {Kind: api.KInt}}}
		case c.Kind == api.KCon && (c.S == "true" || c.S == "false"):
			return api.Core{Kind: api.KOp, N: api.OpEq, At: c.At, L: []api.Core{{Kind: api.KText}, {Kind: api.KText}}}
		case c.Kind == api.KOp && c.N <= api.OpRem:
			return api.Core{Kind: api.KInt, At: c.At}
		}
	}
	var parts []api.Core
	for _, p := range c.L {
		parts = append(parts, swapped(r, p))
	}
	c.L = parts
	return c
}

func otherNumber(r *rand.Rand, c api.Core) api.Core {
	one := api.Core{Kind: api.KInt, N: 1}
	return pick(&maker{r: r},
		api.Core{Kind: api.KOp, N: api.OpNeg, At: c.At, L: []api.Core{one}},
		api.Core{Kind: api.KApp, At: c.At, L: []api.Core{{Kind: api.KBuiltin, N: api.BLength}, {Kind: api.KText}}},
		api.Core{Kind: api.KMatch, At: c.At, L: []api.Core{one, {Kind: api.KCase, L: []api.Core{{Kind: api.QAny}, one}}}},
		api.Core{Kind: api.KRaise, At: c.At, L: []api.Core{{Kind: api.KCon, S: "N"}}}, // of any type
	)
}

// P11.2: a part may stand for another one of its type.
func TestOtherParts(t *testing.T) {
	for seed := range 3000 {
		s, d, c, want, ok := made(t, seed, 0)
		if !ok {
			continue
		}
		other := swapped(rand.New(rand.NewSource(int64(seed))), c)
		got, e, at := infer.Infer(d, other)
		if e != api.OK || !isInstance(want, got, map[int]api.Type{}) {
			t.Fatalf("%s: %s, %d at %d, made for %s", s, types.Text(got), e, at-len(head), types.Text(want))
		}
	}
}

// wrapped tells a core in which expressions stand, here and there, in something that has their type; values of lets stay, since they would be none.
func wrapped(r *rand.Rand, c api.Core, value bool) api.Core {
	if c.Kind >= api.QAny {
		return c
	}
	whole := c
	c.L = nil
	for i, p := range whole.L {
		isValue := c.Kind == api.KLet && i == 0 || c.Kind == api.KRec && i < int(c.N) || value && (c.Kind == api.KCon || c.Kind == api.KTuple)
		c.L = append(c.L, wrapped(r, p, isValue))
	}
	if value || c.Kind == api.KCase || r.Intn(4) > 0 {
		return c
	}
	one, truth := api.Core{Kind: api.KInt}, api.Core{Kind: api.KCon, S: "true"}
	id := api.Core{Kind: api.KFun, N: 1, V: 1 << 40, L: []api.Core{{Kind: api.KVar, V: 1 << 40}}}
	return pick(&maker{r: r},
		api.Core{Kind: api.KSeq, At: c.At, L: []api.Core{one, c}},
		api.Core{Kind: api.KIf, At: c.At, L: []api.Core{truth, c, c}},
		api.Core{Kind: api.KApp, At: c.At, L: []api.Core{id, c}},
		api.Core{Kind: api.KLet, At: c.At, V: 1 << 40, L: []api.Core{c, {Kind: api.KVar, V: 1 << 40}}},
		api.Core{Kind: api.KMatch, At: c.At, L: []api.Core{c, {Kind: api.KCase, L: []api.Core{{Kind: api.QVar, V: 1 << 41}, {Kind: api.KVar, V: 1 << 41}}}}},
	)
}

// P11.2: what stands in something of the same type leaves all types as they are.
func TestWrappedParts(t *testing.T) {
	for seed := range 3000 {
		s, d, c, _, ok := made(t, seed, 0)
		if !ok {
			continue
		}
		sameAnswer(t, s, d, c, wrapped(rand.New(rand.NewSource(int64(seed))), c, false))
	}
}

// P11.1: whole programs too.
func TestProgramsAsTheModel(t *testing.T) {
	fine := 0
	for seed := range 1500 {
		m := newMaker(int64(seed), seed%3*5, 10+seed%50)
		s := head + "1"
		for range 1 + m.r.Intn(5) {
			s += " " + m.let()
		}
		n, e, _ := parse.Parse(s)
		if e != api.OK {
			continue
		}
		d, c, e, at := core.Resolve(n)
		if e != api.OK {
			t.Fatalf("%s: %d at %d", s, e, at)
		}
		if e, ok := asModelled(t, s, d, c); ok && e == api.OK {
			fine++
		}
	}
	if fine < 500 {
		t.Errorf("only %d programs have a type", fine)
	}
}
