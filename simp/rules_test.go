package simp_test

import (
	"math"
	"math/rand"
	"reflect"
	"slices"
	"testing"

	"grapnel/api"
	"grapnel/lam"
	"grapnel/simp"
)

// spoiledProgram tells a random program with spare nodes in it.
func spoiledProgram(seed int) api.Lams {
	p := made(seed, 10*(seed%2))
	s := &spoiler{r: rand.New(rand.NewSource(int64(seed))), often: 10}
	p.Body = s.spoiled(p.Body, scope{})
	return p
}

// R3, R4, R5: the same calls answer the same, and change nothing that they are handed.
func TestTheSameAgain(t *testing.T) {
	for seed := range 500 {
		p := spoiledProgram(seed)
		q, e := simp.Of(p)
		is := simp.Clean(p)
		if !reflect.DeepEqual(p, spoiledProgram(seed)) {
			t.Fatalf("seed %d: changed", seed)
		}
		if again, f := simp.Of(p); e != f || !reflect.DeepEqual(q, again) || simp.Clean(p) != is {
			t.Fatalf("seed %d: %d, then %d", seed, e, f)
		}
	}
}

// spoil writes into all lists that a node has, also behind their ends.
func spoil(c *api.Lam) {
	for i := range c.L {
		spoil(&c.L[i])
	}
	for _, l := range [][]int64{c.Ns[:cap(c.Ns)], c.Ts[:cap(c.Ts)]} {
		for i := range l {
			l[i] = -99
		}
	}
	for i := range c.L[:cap(c.L)] {
		c.L[:cap(c.L)][i] = api.Lam{Kind: 99}
	}
}

func spoilTypes(l []api.Type) {
	for i := range l {
		spoilTypes(l[i].L)
		l[i] = api.Type{V: 99}
	}
}

// R3: who has an answer may change it: what was handed, and what is answered later, stays.
func TestAnswersAreNew(t *testing.T) {
	for seed := range 300 {
		p := made(seed, 0)
		if seed%2 == 0 {
			p = spoiledProgram(seed)
		}
		before := program(alike(p.Body))
		q, _ := simp.Of(p)
		again, _ := simp.Of(p)
		for i := range q.Exns {
			spoilTypes(q.Exns[i].Of)
			q.Exns[i] = api.Con{}
		}
		spoil(&q.Body)
		if !reflect.DeepEqual(p.Exns, before.Exns) || !equal(p.Body, before.Body) {
			t.Fatalf("seed %d: what was handed has changed", seed)
		}
		if q, e := simp.Of(p); e != api.OK || !reflect.DeepEqual(q, again) {
			t.Fatalf("seed %d: what is answered has changed", seed)
		}
	}
}

// LANGUAGE 7: no two lists of one answer share anything, also where those of the argument do.
func TestListsAreApart(t *testing.T) {
	for seed := range 300 {
		p := spoiledProgram(seed)
		if seed%3 == 0 {
			p = made(seed, 0)
			p.Body = seq(say(num(1)), p.Body, p.Body, choose([]int64{1}, nil, read(), p.Body, p.Body))
			p.Exns[7].Of = []api.Type{{S: "*", L: slices.Repeat(p.Exns[7].Of, 3)}}
		}
		q, e := simp.Of(p)
		if e != api.OK || !reflect.DeepEqual(p.Exns, q.Exns) {
			t.Fatalf("seed %d: %d", seed, e)
		}
		parts, numbers, types := map[*api.Lam]int{}, map[*int64]int{}, map[*api.Type]int{}
		for _, x := range listed(&q.Body) {
			once(parts, x.L)
			once(numbers, x.Ns)
			once(numbers, x.Ts)
		}
		for _, x := range q.Exns {
			onceTypes(types, x.Of)
		}
		if twice(parts) || twice(numbers) || twice(types) {
			t.Fatalf("seed %d: lists are shared", seed)
		}
	}
}

func once[T any](seen map[*T]int, l []T) {
	for i := range l {
		seen[&l[i]]++
	}
}

func onceTypes(seen map[*api.Type]int, l []api.Type) {
	once(seen, l)
	for _, x := range l {
		onceTypes(seen, x.L)
	}
}

func twice[T any](seen map[*T]int) bool {
	for _, many := range seen {
		if many > 1 {
			return true
		}
	}
	return false
}

// P15.1: what tells that a program may not be is lam.May.
func TestMayNotBe(t *testing.T) {
	one := num(1)
	for _, c := range []api.Lam{
		{}, {Kind: -1}, {Kind: api.LRaise + 1}, {Kind: math.MaxInt}, num(1 << 62), num(leastInt - 1), {Kind: api.LInt, V: 1}, {Kind: api.LInt, L: []api.Lam{one}}, at(1), let(-1, one, one), let(1, one, let(1, one, one)), let(1, one, at(2)), let(1, at(1), one), seq(let(1, one, one), at(1)), {Kind: api.LLet}, {Kind: api.LSeq, L: []api.Lam{one}}, {Kind: api.LIf, L: []api.Lam{one, one}}, {Kind: api.LSwitch}, choose([]int64{1}, nil, one, one), choose([]int64{2, 1}, nil, one, one, one, one),
		exit(1), catch(1, nil, one, exit(1)), catch(1, nil, fun(1, 1, exit(1)), one), catch(1, nil, try(exit(1), 1, one), one), catch(1, nil, exit(1, one), one), catch(1, nil, catch(1, nil, one, one), one), catch(-1, nil, one, one), {Kind: api.LCatch}, {Kind: api.LOp, N: api.OpAdd}, op(api.OpAdd, one), op(api.OpNeg, one, one), op(0, one, one), op(12, one, one), op(43, one, one), op(-1, one, one), op(math.MinInt64, one, one),
		{Kind: api.LFun, N: 1}, fun(1, 0, one), fun(1, 31, one), rec(1, one, one), {Kind: api.LRec}, text(string(make([]byte, 4097))),
	} {
		refused(t, program(c))
		refused(t, program(branch(num(0), c, one))) // also in what goes
		refused(t, program(seq(say(one), c)))
		refused(t, program(catch(1000, nil, one, c)))
	}
	p := program(one)
	for _, l := range [][]api.Con{nil, p.Exns[:5], p.Exns[1:], append(exns()[:6], api.Con{}), append(exns()[:6], api.Con{Name: "A", N: 1}), append(exns(), exns()...)} {
		refused(t, api.Lams{Exns: l, Body: one})
	}
	refused(t, api.Lams{})
	for _, l := range [][]api.Con{p.Exns[:6], p.Exns[:7], p.Exns} {
		if q, e := simp.Of(api.Lams{Exns: l, Body: one}); e != api.OK || !reflect.DeepEqual(q, api.Lams{Exns: l, Body: one}) || !simp.Clean(q) {
			t.Errorf("%d exceptions: %d", len(l), e)
		}
	}
}

// wildLam makes up a node of any form.
func wildLam(r *rand.Rand, depth int) api.Lam {
	c := api.Lam{Kind: pick(r, r.Intn(25), api.LInt, api.LVar, api.LLet, api.LSeq, api.LIf, api.LSwitch, api.LOp, api.LCatch)}
	c.N = pick(r, int64(r.Intn(4)), int64(r.Intn(45)), -1, math.MaxInt64, math.MinInt64)
	c.V = pick(r, r.Intn(4), r.Intn(4), -1, math.MaxInt, math.MinInt)
	for r.Intn(4) == 0 {
		c.Ns = append(c.Ns, int64(len(c.Ns)+r.Intn(4)))
	}
	for r.Intn(4) == 0 {
		c.Ts = append(c.Ts, int64(len(c.Ts)+r.Intn(4)))
	}
	for depth > 0 && len(c.L) < 3 && r.Intn(4) > 0 {
		c.L = append(c.L, wildLam(r, depth-1))
	}
	return c
}

// changed tells a node in which one here and there is another one.
func changed(r *rand.Rand, c api.Lam) api.Lam {
	switch w := wildLam(r, 2); r.Intn(300) {
	case 0:
		return w
	case 1:
		c.Kind = w.Kind
	case 2:
		c.N = w.N
	case 3:
		c.V = w.V
	case 4:
		c.Ns = w.Ns
	case 5:
		c.L = c.L[:r.Intn(len(c.L)+1)]
	case 6:
		c.L = append(slices.Clone(c.L), num(1))
	case 7:
		return pick(r, num(0), at(r.Intn(9)), exit(int64(r.Intn(4))), let(r.Intn(9), num(1), c), catch(int64(r.Intn(4)), nil, c, num(1)), branch(num(0), num(1), c), seq(num(1), c))
	}
	var parts []api.Lam
	for _, p := range c.L {
		parts = append(parts, changed(r, p))
	}
	c.L = parts
	return c
}

// R1, P15.1: of any program there is an answer.
func TestAnyProgram(t *testing.T) {
	t.Parallel()
	is := map[bool]int{}
	for seed := range 12000 {
		r := rand.New(rand.NewSource(int64(seed)))
		p := program(wildLam(r, 1+seed%5))
		if seed%2 == 0 {
			p = newMaker(int64(seed), 0, 5+seed%20).program()
			p.Body = changed(r, p.Body)
		}
		ok := lam.May(p)
		is[ok]++
		if !ok {
			refused(t, p)
		} else if w := differs(p, []string{"a"}, 300, int64(r.Intn(100))); w != "" {
			t.Fatalf("seed %d: %v: %s", seed, p.Body, w)
		}
	}
	if is[true] < 500 || is[false] < 5000 {
		t.Errorf("only %v", is)
	}
}
