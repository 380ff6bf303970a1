package lam_test

import (
	"math"
	"slices"
	"strings"
	"testing"

	"grapnel/api"
)

const (
	mostInt = 1<<62 - 1
	most    = 1 << 20 // of the numbers of variables and catches
)

// least tells the smallest node of each kind that may be where variable 900 is bound, in the first part of an LCatch 900 of nothing.
func least(kind int) api.Lam {
	a := num(1)
	switch kind {
	case api.LInt, api.LText, api.LBlock, api.LExit:
		c := api.Lam{Kind: kind}
		if kind == api.LExit {
			c.N = 900
		}
		return c
	case api.LVar:
		return at(900)
	case api.LFun:
		return fun(1, 1, a)
	case api.LRec:
		return rec(1, fun(2, 1, a), a)
	case api.LField, api.LRaise:
		return of(kind, 0, a)
	case api.LPut, api.LIf, api.LFor:
		return of(kind, 0, a, a, a)
	case api.LOp:
		return add(a, a)
	case api.LCall:
		return say(a)
	}
	return of(kind, 0, a, a)
}

// around tells a body around a node that least tells.
func around(c api.Lam) api.Lam { return let(900, num(1), catch(900, nil, c, num(1))) }

// P13.1: there are just these kinds.
func TestKinds(t *testing.T) {
	for kind := -1; kind <= api.LRaise+2; kind++ {
		may(t, around(least(kind)), kind >= api.LInt && kind <= api.LRaise)
	}
	for _, kind := range []int{math.MaxInt, math.MinInt, 101, 201, 256 + api.LInt, 1<<32 + api.LInt} {
		may(t, around(api.Lam{Kind: kind}), false)
	}
}

// P13.1: a node has just the fields that its kind has; a list without elements is none.
func TestJustItsFields(t *testing.T) {
	has := map[int]string{
		api.LInt: "N", api.LText: "S", api.LVar: "V", api.LFun: "NV", api.LApp: "", api.LLet: "V", api.LRec: "NV", api.LBlock: "N", api.LField: "N", api.LSet: "N", api.LAt: "", api.LPut: "",
		api.LOp: "N", api.LCall: "N", api.LIf: "", api.LSwitch: "st", api.LCatch: "Ns", api.LExit: "N", api.LSeq: "", api.LWhile: "", api.LFor: "NV", api.LTry: "V", api.LRaise: "",
	}
	for kind := api.LInt; kind <= api.LRaise; kind++ {
		all := least(kind)
		all.Ns, all.Ts = []int64{}, []int64{}
		if len(all.L) == 0 {
			all.L = []api.Lam{}
		}
		may(t, around(all), true)
		for field, set := range map[string]func(c *api.Lam){
			"N": func(c *api.Lam) { c.N++ }, "V": func(c *api.Lam) { c.V++ }, "S": func(c *api.Lam) { c.S = "a" },
			"s": func(c *api.Lam) { c.Ns = []int64{5} }, "t": func(c *api.Lam) { c.Ts = []int64{5} },
		} {
			c := least(kind)
			set(&c)
			switch want := strings.Contains(has[kind], field); {
			case kind == api.LVar && field == "V", kind == api.LExit && field == "N", kind == api.LRec && field == "N", kind == api.LRec && field == "V", kind == api.LSwitch && want:
				// it isn't what is around then, or lacks a part
				may(t, around(c), false)
			default:
				may(t, around(c), want)
			}
		}
	}
}

// P13.1: how many parts each kind has.
func TestParts(t *testing.T) {
	some := func(n int) []api.Lam { return slices.Repeat([]api.Lam{num(1)}, n) }
	for kind := api.LInt; kind <= api.LRaise; kind++ {
		from, to := len(least(kind).L), len(least(kind).L)
		switch kind {
		case api.LApp:
			to = 30
		case api.LBlock:
			to = 4096
		case api.LRec:
			continue
		}
		for n := range 40 {
			c := least(kind)
			c.L = some(n)
			may(t, around(c), n >= from && n <= to)
		}
	}
	for n, want := range map[int]bool{4095: true, 4096: true, 4097: false, 19000: false} {
		may(t, block(7, some(n)...), want)
	}
	for n := range 33 {
		all := slices.Repeat([]api.Lam{fun(100, 1, num(1))}, n)
		may(t, rec(1, append(all, num(1))...), n >= 1 && n <= 30)
		for _, other := range []int64{-1, 1} {
			c := rec(1, append(all, num(1))...)
			c.N += other
			may(t, c, false)
		}
	}
	for n, want := range map[int]bool{0: true, 1: true, 30: true, 31: false} {
		var ns []int64
		for i := range n {
			ns = append(ns, int64(i+5))
		}
		may(t, catch(1, ns, exit(1, some(n)...), num(1)), want)
		may(t, catch(1, ns, num(1), num(1)), want)
	}
}

// P13.1: how many parts each operation and each built-in function has.
func TestOperands(t *testing.T) {
	ops := map[int64]int{}
	for n := int64(api.OpAdd); n <= api.OpLess; n++ {
		ops[n] = 2
	}
	for n := int64(api.OpNeg); n <= api.OpAssign; n++ {
		ops[n] = 2
	}
	for _, n := range []int64{api.OpNeg, api.OpNot, api.OpRef, api.OpDeref} {
		ops[n] = 1
	}
	calls := map[int64]int{}
	for n := int64(api.BPrintInt); n <= api.BHash; n++ {
		calls[n] = 1
	}
	calls[api.BByte], calls[api.BMake], calls[api.BCompare] = 2, 2, 2
	for kind, known := range map[int]map[int64]int{api.LOp: ops, api.LCall: calls} {
		for n := int64(-2); n < 50; n++ {
			for many := range 5 {
				want, ok := known[n]
				may(t, of(kind, n, slices.Repeat([]api.Lam{num(1)}, many)...), ok && many == want)
			}
		}
		for _, n := range []int64{math.MaxInt64, math.MinInt64, 1<<32 + 1, 256 + 1} {
			may(t, of(kind, n, num(1), num(1)), false)
			may(t, of(kind, n, num(1)), false)
		}
	}
}

// P13.1: each bound of N and V, met and passed by one.
func TestBounds(t *testing.T) {
	a := num(1)
	for _, one := range []struct {
		least, most int64
		node        func(n int64) api.Lam
	}{
		{-1 << 62, mostInt, num},
		{1, 30, func(n int64) api.Lam { return fun(1, n, a) }},
		{0, 199, func(n int64) api.Lam { return block(n, a) }},
		{0, 199, func(n int64) api.Lam { return block(n) }},
		{0, 4095, func(n int64) api.Lam { return of(api.LField, n, a) }},
		{0, 4095, func(n int64) api.Lam { return of(api.LSet, n, a, a) }},
		{0, 1, func(n int64) api.Lam { return loop(n, 1, a, a, a) }},
		{0, most, func(n int64) api.Lam { return catch(n, nil, a, a) }},
		{0, most, func(n int64) api.Lam { return catch(n, nil, exit(n), a) }},
		{0, most, func(n int64) api.Lam { return catch(1, []int64{n}, a, a) }},
		{0, most, func(n int64) api.Lam { return catch(1, []int64{n}, exit(1, a), at(int(n))) }},
		{0, most, func(n int64) api.Lam { return fun(int(n), 1, at(int(n))) }},
		{0, most - 29, func(n int64) api.Lam { return fun(int(n), 30, at(int(n)+29)) }},
		{0, most, func(n int64) api.Lam { return let(int(n), a, at(int(n))) }},
		{0, most, func(n int64) api.Lam { return let(int(n), a, a) }},
		{0, most, func(n int64) api.Lam { return loop(1, int(n), a, a, at(int(n))) }},
		{0, most, func(n int64) api.Lam { return try(a, int(n), at(int(n))) }},
		{0, most - 1, func(n int64) api.Lam { return rec(int(n), fun(77, 1, a), fun(77, 1, a), at(int(n)+1)) }},
	} {
		for _, n := range []int64{one.least, one.least + 1, one.most - 1, one.most} {
			may(t, one.node(n), n >= one.least && n <= one.most)
		}
		for _, n := range []int64{one.least - 1, one.most + 1, one.most + 2, one.most + 1<<32, one.least - 1<<32, math.MaxInt64, math.MaxInt64 - 1, math.MinInt64} {
			may(t, one.node(n), false)
		}
	}
	for _, n := range []int64{math.MaxInt64, math.MaxInt64 - 1, math.MinInt64, -1, 0, 31} {
		may(t, api.Lam{Kind: api.LRec, N: n, V: 1, L: []api.Lam{a}}, false)
		may(t, api.Lam{Kind: api.LRec, N: n, V: 1, L: []api.Lam{fun(2, 1, a), a}}, false)
		may(t, api.Lam{Kind: api.LRec, N: n, V: 1}, false)
	}
	for n, want := range map[int]bool{0: true, 1: true, 4095: true, 4096: true, 4097: false, 100000: false} {
		may(t, text(strings.Repeat("a", n)), want)
		may(t, text(strings.Repeat("\xff", n)), want)
	}
}

// P13.1: an LRec's parts but the last one are LFuns; that one may be anything.
func TestRecsFunctions(t *testing.T) {
	f := fun(5, 1, num(1))
	may(t, rec(1, f, f, f), true)
	may(t, rec(1, f, f, num(1)), true)
	may(t, rec(1, num(1), f, num(1)), false)
	may(t, rec(1, f, at(1), num(1)), false)
	may(t, rec(1, f, let(9, num(1), f), num(1)), false)
	may(t, rec(1, rec(9, f, f), num(1)), false)
}

// P13.1: an LSwitch has two parts, and one more for each of Ns and Ts, which rise.
func TestSwitches(t *testing.T) {
	a := num(1)
	some := func(n int) []api.Lam { return slices.Repeat([]api.Lam{a}, n) }
	for _, one := range []struct {
		ns, ts []int64
		want   bool
	}{
		{nil, nil, true}, {[]int64{0}, nil, true}, {[]int64{0, 1}, nil, true}, {[]int64{1, 0}, nil, false}, {[]int64{1, 1}, nil, false}, {[]int64{-5, 0, 7, 7}, nil, false}, {[]int64{-5, 0, 7, 6}, nil, false}, {[]int64{-5, 0, 7, 8}, nil, true},
		{[]int64{3, 2, 5}, nil, false}, {[]int64{-1 << 62, mostInt}, nil, true}, {[]int64{mostInt, -1 << 62}, nil, false}, {[]int64{math.MinInt64, math.MaxInt64}, nil, true}, {[]int64{1000}, []int64{0}, true},
		{nil, []int64{0}, true}, {nil, []int64{199}, true}, {nil, []int64{0, 199}, true}, {nil, []int64{200}, false}, {nil, []int64{-1}, false}, {nil, []int64{0, 200}, false}, {nil, []int64{-1, 0}, false}, {nil, []int64{5, 5}, false}, {nil, []int64{5, 4}, false},
		{nil, []int64{2, 4, 3}, false}, {[]int64{4, 5}, []int64{1, 2, 3}, true}, {[]int64{5, 4}, []int64{1, 2, 3}, false}, {[]int64{4, 5}, []int64{2, 1, 3}, false}, {[]int64{9}, []int64{5}, true}, {nil, []int64{math.MinInt64}, false}, {nil, []int64{math.MaxInt64}, false},
	} {
		many := 2 + len(one.ns) + len(one.ts)
		for n := range 12 {
			may(t, choose(one.ns, one.ts, some(n)...), one.want && n == many)
		}
	}
	var all []int64
	for i := range int64(200) {
		all = append(all, i)
	}
	may(t, choose(all, all, some(402)...), true)
	may(t, choose(all, append(all, 200), some(403)...), false)
	var ns []int64
	for i := range int64(19994) {
		ns = append(ns, 3*i-30000)
	}
	may(t, choose(ns, nil, some(19996)...), true) // with what the test has beside it 20000 nodes
	ns[9000], ns[9001] = ns[9001], ns[9000]
	may(t, choose(ns, nil, some(19996)...), false)
}

// P13.1: the exceptions that a program may have.
func TestExceptions(t *testing.T) {
	text := []api.Type{{S: "string"}}
	with := func(more ...api.Con) []api.Con { return append(builtIn(), more...) }
	other := func(change func(l []api.Con)) []api.Con {
		l := with(api.Con{Name: "A", N: 5}, api.Con{Name: "B", N: 1, Of: text})
		change(l)
		return l
	}
	for i, l := range [][]api.Con{
		with(), with(api.Con{Name: "A", N: 5}), with(api.Con{Name: "A", N: 1, Of: text}), with(api.Con{Name: "A", N: 5}, api.Con{Name: "B", N: 6}), with(api.Con{Name: "A", N: 5}, api.Con{Name: "B", N: 1, Of: text}, api.Con{Name: "C", N: 6}, api.Con{Name: "D", N: 2, Of: text}),
		with(api.Con{Name: "A", N: 1, Of: []api.Type{{S: "*", L: []api.Type{{S: "int"}, {S: "exn"}}}}}), with(api.Con{Name: "A", N: 5, Of: []api.Type{}}), other(func(l []api.Con) {}),
	} {
		if !mayWith(t, l, true) {
			t.Errorf("%d: %v may not be", i, l)
		}
	}
	for i, l := range [][]api.Con{
		nil, {}, with()[1:], with()[:5], with()[:1], {with()[1], with()[0], with()[2], with()[3], with()[4], with()[5]}, {with()[0], with()[1], with()[2], with()[3], with()[5], with()[4]},
		append([]api.Con{{Name: "A", N: 0}}, with()...), {with()[0], with()[1], with()[2], with()[3], with()[4], {Name: "A", N: 5}, with()[5]},
		with(api.Con{Name: "A"}), with(api.Con{Name: "A", N: 4}), with(api.Con{Name: "A", N: 6}), with(api.Con{Name: "A", N: -1}), with(api.Con{Name: "A", N: 5, Of: text}), with(api.Con{Name: "A", Of: text}), with(api.Con{Name: "A", N: 2, Of: text}), with(api.Con{Name: "A", N: 1}),
		with(api.Con{Name: "A", N: 5}, api.Con{Name: "B", N: 5}), with(api.Con{Name: "A", N: 6}, api.Con{Name: "B", N: 5}), with(api.Con{Name: "A", N: 1, Of: text}, api.Con{Name: "B", N: 1, Of: text}), with(api.Con{Name: "A", N: 5}, api.Con{Name: "B", N: 6, Of: text}), with(api.Con{Name: "A", N: 5}, api.Con{Name: "B", N: 2, Of: text}),
		with(api.Con{N: 5}), with(api.Con{N: 1, Of: text}), with(api.Con{Name: "A", N: 5}, api.Con{Name: "A", N: 6}), with(api.Con{Name: "A", N: 5}, api.Con{Name: "A", N: 1, Of: text}), with(api.Con{Name: "Failure", N: 5}), with(api.Con{Name: "Failure", N: 1, Of: text}), with(api.Con{Name: "Not_found", N: 5}), with(api.Con{Name: "Match_failure", N: 1, Of: text}),
		other(func(l []api.Con) { l[0].Name = "Match" }), other(func(l []api.Con) { l[0].N = 1 }), other(func(l []api.Con) { l[0].Of = text }), other(func(l []api.Con) { l[2].N = 3 }), other(func(l []api.Con) { l[3].Name = "A" }), other(func(l []api.Con) { l[4].Name = "" }), other(func(l []api.Con) { l[5].Name = "failure" }),
		other(func(l []api.Con) { l[5].Of = nil }), other(func(l []api.Con) { l[5].N, l[5].Of = 5, nil }), other(func(l []api.Con) { l[5].N = 1 }), other(func(l []api.Con) { l[5].Of = []api.Type{{S: "int"}} }), other(func(l []api.Con) { l[5].Of = append(text, text...) }), other(func(l []api.Con) { l[3].N, l[4].N = 4, 3 }),
		with(api.Con{Name: "A", N: 1, Of: []api.Type{{S: "int"}, {S: "int"}}}), with(api.Con{Name: "A", N: 5, Of: []api.Type{{S: "int"}, {S: "exn"}}}), other(func(l []api.Con) { l[7].Of = []api.Type{{}, {}, {}} }), with(api.Con{Name: "A", N: 5}, api.Con{Name: "B", N: 1, Of: append(text, text...)}, api.Con{Name: "C", N: 2, Of: text}),
		other(func(l []api.Con) { l[5].Of = []api.Type{{V: 1}} }), other(func(l []api.Con) { l[5].Of = []api.Type{{V: 1, S: "string"}} }), other(func(l []api.Con) { l[5].Of = []api.Type{{S: "string", L: text}} }), other(func(l []api.Con) { l[0].Name, l[1].Name = l[1].Name, l[0].Name }),
	} {
		if mayWith(t, l, false) {
			t.Errorf("%d: %v may be", i, l)
		}
	}
}

func mayWith(t *testing.T, l []api.Con, want bool) bool {
	t.Helper()
	isMay(t, api.Lams{Exns: l, Body: num(1)}, want)
	return want
}

// P13.1: at most 200 exceptions, of both kinds.
func TestManyExceptions(t *testing.T) {
	for _, kind := range []int{1, 2, 3} { // without anything, with something, of both
		l := builtIn()
		counts := [2]int{5, 1}
		for len(l) < 203 {
			k := len(l) % 2
			if kind < 3 {
				k = kind - 1
			}
			x := api.Con{Name: "E" + strings.Repeat("'", len(l)), N: counts[k]}
			if k == 1 {
				x.Of = []api.Type{{S: "int"}}
			}
			counts[k]++
			l = append(l, x)
		}
		for n := 190; n <= 203; n++ {
			mayWith(t, l[:n], n <= 200)
		}
	}
}
