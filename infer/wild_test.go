package infer_test

import (
	"math"
	"math/rand"
	"reflect"
	"testing"

	"grapnel/api"
	"grapnel/infer"
	"grapnel/types"
)

// wildCore makes up a core of any form.
func wildCore(r *rand.Rand, depth int) api.Core {
	m := &maker{r: r}
	c := api.Core{At: r.Intn(100), Kind: pick(m, r.Intn(27)-1, r.Intn(27)-1, 100+r.Intn(11), api.KCase)}
	c.N = pick(m, int64(r.Intn(4)), int64(r.Intn(45)), -1, math.MaxInt64, math.MinInt64)
	c.V = pick(m, r.Intn(4), r.Intn(4), -1, math.MaxInt, math.MinInt)
	c.S = pick(m, "", "()", "true", "[]", "::", "A", "B", "C", "x", "y", "r", "t", "N", "E", "unknown")
	for depth > 0 && r.Intn(4) > 0 {
		c.L = append(c.L, wildCore(r, depth-1))
	}
	return c
}

func wildType(r *rand.Rand, depth int) api.Type {
	m := &maker{r: r}
	t := api.Type{V: pick(m, 0, 0, 0, 1, -1, math.MaxInt), S: pick(m, "", "int", "list", "t", "r", "*")}
	for depth > 0 && r.Intn(3) == 0 {
		t.L = append(t.L, wildType(r, depth-1))
	}
	return t
}

func wildDecls(r *rand.Rand) api.Decls {
	m := &maker{r: r}
	var d api.Decls
	for range r.Intn(3) {
		s := api.Sort{Name: pick(m, "", "t", "r", "int")}
		for range r.Intn(3) {
			s.Cons = append(s.Cons, api.Con{Name: pick(m, "A", "B", "true"), Of: []api.Type{wildType(r, 2), wildType(r, 2)}[:r.Intn(3)]})
			s.Labels = append(s.Labels, api.Label{Name: pick(m, "x", "y"), T: wildType(r, 2)})
		}
		d.Sorts = append(d.Sorts, s)
	}
	return d
}

// R1: of any core, and whatever is declared, Infer ends, without a panic; beside an error there is nothing.
func TestAnyCore(t *testing.T) {
	seen := map[api.Errno]int{}
	d, _ := expression(t, "1")
	for seed := range 60000 {
		r := rand.New(rand.NewSource(int64(seed)))
		decls := d
		if seed%4 == 0 {
			decls = wildDecls(r)
		}
		c := wildCore(r, 1+seed%5)
		got, e, at := infer.Infer(decls, c)
		seen[e]++
		if e != api.OK && !same(got, api.Type{}) || e == api.OK && at != 0 {
			t.Fatalf("seed %d: %v, %d at %d", seed, got, e, at)
		}
	}
	if seen[api.OK] < 1000 || seen[api.ErrForm] < 1000 || seen[api.ErrType] < 100 {
		t.Errorf("only %v", seen)
	}
}

// changed tells a core in which a node here and there is another one.
func changed(r *rand.Rand, c api.Core) api.Core {
	switch r.Intn(60) {
	case 0:
		return wildCore(r, 2)
	case 1:
		c.Kind = wildCore(r, 0).Kind
	case 2:
		c.N = wildCore(r, 0).N
	case 3:
		c.V = wildCore(r, 0).V
	case 4:
		c.S = wildCore(r, 0).S
	case 5:
		c.L = c.L[:r.Intn(len(c.L)+1)]
	}
	var parts []api.Core
	for _, p := range c.L {
		parts = append(parts, changed(r, p))
	}
	c.L = parts
	return c
}

// R1: the same of cores that are nearly such as Resolve tells.
func TestChangedCores(t *testing.T) {
	seen := map[api.Errno]int{}
	for seed := range 4000 {
		_, d, c, _, ok := made(t, seed, 0)
		if !ok {
			continue
		}
		got, e, _ := infer.Infer(d, changed(rand.New(rand.NewSource(int64(seed))), c))
		seen[e]++
		if e != api.OK && !same(got, api.Type{}) || e == api.OK && !types.May(got) {
			t.Fatalf("seed %d: %v, %d", seed, got, e)
		}
	}
	if seen[api.OK] < 100 || seen[api.ErrForm] < 300 || seen[api.ErrType] < 100 {
		t.Errorf("only %v", seen)
	}
}

// R1: what Resolve doesn't tell is ErrForm at its place, or at the place of the node that lacks a part.
func TestNoForm(t *testing.T) {
	d, _ := expression(t, "1")
	one, other := api.Core{Kind: api.KInt, At: 1}, api.Core{Kind: api.KText, At: 2}
	for _, c := range []api.Core{
		{At: 9}, {Kind: -1, At: 9}, {Kind: api.KOp + 1, At: 9}, {Kind: api.QAny - 1, At: 9}, {Kind: api.QAs + 1, At: 9}, {Kind: api.KCase, At: 9, L: []api.Core{one, one}},
		{Kind: api.KVar, V: 0, At: 9}, {Kind: api.KBuiltin, N: 0, At: 9}, {Kind: api.KBuiltin, N: 13, At: 9}, {Kind: api.KOp, N: 12, At: 9, L: []api.Core{one, one}},
		{Kind: api.KCon, S: "Unknown", At: 9}, {Kind: api.KCon, S: "A", At: 9, L: []api.Core{one}}, {Kind: api.KCon, S: "B", At: 9}, {Kind: api.KCon, S: "N", At: 9, L: []api.Core{one}}, {Kind: api.KCon, S: "::", At: 9, L: []api.Core{one}},
		{Kind: api.KRecord, S: "unknown", At: 9}, {Kind: api.KRecord, S: "r", At: 9, L: []api.Core{one}}, {Kind: api.KGet, S: "unknown", At: 9, L: []api.Core{one}}, {Kind: api.KSet, S: "unknown", At: 9, L: []api.Core{one, one}}, {Kind: api.KGet, S: "x", At: 9},
		{Kind: api.KApp, At: 9}, {Kind: api.KFun, N: 1, At: 9}, {Kind: api.KFun, N: -1, At: 9, L: []api.Core{one}}, {Kind: api.KFun, N: math.MaxInt64, At: 9, L: []api.Core{one}}, {Kind: api.KFun, N: api.MaxParts + 1, At: 9, L: []api.Core{one}},
		{Kind: api.KLet, At: 9}, {Kind: api.KLet, At: 9, L: []api.Core{one}}, {Kind: api.KRec, At: 9}, {Kind: api.KRec, N: 1, At: 9, L: []api.Core{one}}, {Kind: api.KRec, N: -1, At: 9}, {Kind: api.KRec, N: math.MaxInt64, At: 9, L: []api.Core{one, one}},
		{Kind: api.KIf, At: 9, L: []api.Core{{Kind: api.KCon, S: "true"}, one}}, {Kind: api.KMatch, At: 9}, {Kind: api.KTry, At: 9}, {Kind: api.KSeq, At: 9, L: []api.Core{one}}, {Kind: api.KFor, At: 9, L: []api.Core{one, one}}, {Kind: api.KWhile, At: 9}, {Kind: api.KRaise, At: 9},
		{Kind: api.KMatch, At: 3, L: []api.Core{one, {Kind: api.KInt, At: 9}}}, {Kind: api.KMatch, At: 3, L: []api.Core{one, {Kind: api.KCase, At: 9}}}, {Kind: api.KTry, At: 3, L: []api.Core{one, {Kind: api.KCase, At: 9, L: []api.Core{{Kind: api.QAny}}}}},
		{Kind: api.KOp, N: api.OpAdd, At: 9, L: []api.Core{one}}, {Kind: api.KOp, N: api.OpRef, At: 9}, {Kind: api.QOr, At: 9, L: []api.Core{one}}, {Kind: api.QAs, At: 9}, {Kind: api.KSeq, At: 3, L: []api.Core{other, {At: 9}}},
		{Kind: api.KMatch, At: 3, L: []api.Core{{At: 9}, one}}, {Kind: api.KSeq, At: 3, L: []api.Core{{At: 9}, {At: 4}}}, // the first one
		{Kind: api.KSeq, L: []api.Core{{Kind: api.KFun, N: 1, V: 5, L: []api.Core{{Kind: api.KVar, V: 5}}}, {Kind: api.KVar, V: 5, At: 9}}}, // not bound any more
	} {
		if got, e, at := infer.Infer(d, c); e != api.ErrForm || at != 9 || !same(got, api.Type{}) {
			t.Errorf("%v: %s, %d at %d", c, types.Text(got), e, at)
		}
	}
}

// P11.1: of many parameters the type is too great, which is asked behind the body.
func TestManyParameters(t *testing.T) {
	for n, want := range map[int64]api.Errno{1: api.OK, api.MaxType / 2: api.ErrMany, api.MaxType/2 - 1: api.OK, api.MaxParts: api.ErrMany} {
		c := api.Core{Kind: api.KFun, N: n, At: 9, L: []api.Core{{Kind: api.KInt}}}
		if _, e, at := infer.Infer(api.Decls{}, c); e != want || e != api.OK && at != 9 {
			t.Errorf("%d parameters: %d at %d", n, e, at)
		}
		c.L = []api.Core{{Kind: api.KApp, At: 5, L: []api.Core{{Kind: api.KInt, At: 5}, {Kind: api.KInt, At: 6}}}}
		if _, e, at := infer.Infer(api.Decls{}, c); e != api.ErrType || at != 6 {
			t.Errorf("%d parameters, a wrong body: %d at %d", n, e, at)
		}
	}
}

// deepCore tells a core of so many nodes within one another.
func deepCore(most int, last api.Core, around func(i int, c api.Core) api.Core) api.Core {
	for i := most - 1; i > 0; i-- {
		last = around(i, last)
	}
	return last
}

// R1, and the limits of all of it: cores of up to 2^16 nodes within one another.
func TestDeepCores(t *testing.T) {
	const most = 1 << 16
	one, text := api.Core{Kind: api.KInt}, api.Core{Kind: api.KText}
	for name, around := range map[string]func(i int, c api.Core) api.Core{
		"seq": func(i int, c api.Core) api.Core { return api.Core{Kind: api.KSeq, L: []api.Core{text, c}} },
		"add": func(i int, c api.Core) api.Core { return api.Core{Kind: api.KOp, N: api.OpAdd, L: []api.Core{c, one}} },
		"if": func(i int, c api.Core) api.Core {
			return api.Core{Kind: api.KIf, L: []api.Core{{Kind: api.KCon, S: "true"}, c, one}}
		},
		"let":       func(i int, c api.Core) api.Core { return api.Core{Kind: api.KLet, V: i, L: []api.Core{text, c}} },
		"let value": func(i int, c api.Core) api.Core { return api.Core{Kind: api.KLet, V: i, L: []api.Core{c, one}} },
		"apply": func(i int, c api.Core) api.Core {
			return api.Core{Kind: api.KApp, L: []api.Core{{Kind: api.KBuiltin, N: api.BHash}, c}}
		},
		"rec": func(i int, c api.Core) api.Core { return api.Core{Kind: api.KRec, V: i, L: []api.Core{c}} },
		"for": func(i int, c api.Core) api.Core {
			return api.Core{Kind: api.KSeq, L: []api.Core{{Kind: api.KFor, V: i, L: []api.Core{one, one, c}}, one}}
		},
		"function": func(i int, c api.Core) api.Core {
			return api.Core{Kind: api.KApp, L: []api.Core{{Kind: api.KFun, N: 1, V: i, L: []api.Core{c}}, text}}
		},
		"match": func(i int, c api.Core) api.Core {
			return api.Core{Kind: api.KMatch, L: []api.Core{text, {Kind: api.KCase, L: []api.Core{{Kind: api.QVar, V: i}, c}}}}
		},
	} {
		deep := most
		if name == "for" || name == "function" || name == "match" {
			deep = most / 2
		}
		if got, e, at := infer.Infer(api.Decls{}, deepCore(deep, one, around)); types.Text(got) != "int" || e != api.OK || at != 0 {
			t.Errorf("%s: %s, %d at %d", name, types.Text(got), e, at)
		}
	}
	fun := func(i int, c api.Core) api.Core { return api.Core{Kind: api.KFun, At: i, N: 1, V: i, L: []api.Core{c}} }
	if got, e, at := infer.Infer(api.Decls{}, deepCore(most, one, fun)); e != api.ErrMany || at != most-api.MaxType/2 {
		t.Errorf("functions: %s, %d at %d", types.Text(got), e, at)
	}
}

// R3: arguments stay as they were, and an answer shares nothing with them, nor within itself.
func TestApart(t *testing.T) {
	for _, s := range []string{"fun q -> (q.w, q.w, q.z)", "fun x -> C x", "fun x -> P x", "let f = fun x -> (x, x) in (f, f)", "(1 1)"} {
		d, c := expression(t, s)
		d2, c2 := expression(t, s)
		got, e, _ := infer.Infer(d, c)
		text := types.Text(got)
		if !reflect.DeepEqual(d, d2) || !reflect.DeepEqual(c, c2) {
			t.Errorf("%s: the arguments are others", s)
		}
		for i := range got.L {
			spoil(&got.L[i])
			other, _, _ := infer.Infer(d, c)
			for k := i + 1; k < len(got.L); k++ {
				if !same(got.L[k], other.L[k]) {
					t.Errorf("%s: part %d spoils part %d", s, i, k)
				}
			}
		}
		if !reflect.DeepEqual(d, d2) || !reflect.DeepEqual(c, c2) {
			t.Errorf("%s: the answer spoils the arguments", s)
		}
		if again, e2, _ := infer.Infer(d, c); types.Text(again) != text || e2 != e {
			t.Errorf("%s: %s, then %s", s, text, types.Text(again))
		}
	}
}

// spoil makes all nodes of a type others, in place.
func spoil(a *api.Type) {
	for i := range a.L {
		spoil(&a.L[i])
	}
	a.V, a.S = 0, "spoilt"
}

// R6: an empty list and none are one.
func TestEmptyLists(t *testing.T) {
	d, c := expression(t, "fun x -> (A, N, x)")
	want, _, _ := infer.Infer(d, c)
	got, e, _ := infer.Infer(emptied(d), emptiedCore(c))
	if !same(got, want) || e != api.OK {
		t.Errorf("%s, %d, want %s", types.Text(got), e, types.Text(want))
	}
}

func emptied(d api.Decls) api.Decls {
	for i := range d.Sorts {
		for k := range d.Sorts[i].Cons {
			if d.Sorts[i].Cons[k].Of == nil {
				d.Sorts[i].Cons[k].Of = []api.Type{}
			}
		}
	}
	for i := range d.Exns {
		if d.Exns[i].Of == nil {
			d.Exns[i].Of = []api.Type{}
		}
	}
	return d
}

func emptiedCore(c api.Core) api.Core {
	parts := []api.Core{}
	for _, p := range c.L {
		parts = append(parts, emptiedCore(p))
	}
	c.L = parts
	return c
}
