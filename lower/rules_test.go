package lower_test

import (
	"math"
	"math/rand"
	"reflect"
	"testing"

	"grapnel/api"
	"grapnel/lam"
	"grapnel/lower"
)

// made tells a random program that has a type, and its core; false: it is too great.
func made(seed int) (string, api.Decls, api.Core, bool) {
	m := &chooser{maker: *newMaker(int64(seed), 0, 60)}
	s := m.maker.program()
	if seed%2 == 0 {
		s = m.program()
	}
	d, c, ok := resolved(s)
	return s, d, c, ok && isTyped(d, c) && counted(c) <= 1000
}

// R3, R4: the same calls answer the same, and change nothing that they are handed.
func TestTheSameAgain(t *testing.T) {
	for seed := range 600 {
		s, d, c, ok := made(seed)
		if !ok {
			continue
		}
		p, e := lower.Of(d, c)
		_, d2, c2, _ := made(seed)
		if !reflect.DeepEqual(d, d2) || !reflect.DeepEqual(c, c2) {
			t.Fatalf("seed %d: %s: changed", seed, s)
		}
		if q, f := lower.Of(d, c); e != f || !reflect.DeepEqual(p, q) {
			t.Fatalf("seed %d: %s: %d, then %d", seed, s, e, f)
		}
	}
}

// spoil writes into all lists that a node has, also behind their ends.
func spoil(c *api.Lam) {
	for i := range c.L {
		spoil(&c.L[i])
	}
	for _, l := range [][]int64{c.Ns[:cap(c.Ns)], c.Ts[:cap(c.Ts)]} {
		for i := range l {
			l[i] = -99
		}
	}
	for i := range c.L[:cap(c.L)] {
		c.L[:cap(c.L)][i] = api.Lam{Kind: 99}
	}
}

func spoilTypes(l []api.Type) {
	for i := range l {
		spoilTypes(l[i].L)
		l[i] = api.Type{V: 99}
	}
}

// R3: who has an answer may change it: what was handed, and what is answered later, stays.
func TestAnswersAreNew(t *testing.T) {
	for seed := range 300 {
		s, d, c, ok := made(seed)
		if !ok {
			continue
		}
		d.Exns = append(d.Exns, api.Con{Name: "Z", N: 3, Of: []api.Type{{S: "list", L: []api.Type{{S: "list", L: []api.Type{{S: "int"}}}}}}})
		p, _ := lower.Of(d, c)
		for i := range p.Exns {
			spoilTypes(p.Exns[i].Of)
			p.Exns[i] = api.Con{}
		}
		spoil(&p.Body)
		_, d2, c2, _ := made(seed)
		if len(d.Exns[len(d.Exns)-1].Of[0].L[0].L) != 1 || !reflect.DeepEqual(d.Exns[:len(d.Exns)-1], d2.Exns) || !reflect.DeepEqual(d.Sorts, d2.Sorts) || !reflect.DeepEqual(c, c2) {
			t.Fatalf("seed %d: %s: changed", seed, s)
		}
		q, e := lower.Of(d, c)
		if e != api.OK || !lam.May(q) {
			t.Fatalf("seed %d: %s: %d", seed, s, e)
		}
	}
}

// LANGUAGE 7: no two lists of one answer share anything.
func TestListsAreApart(t *testing.T) {
	for seed := range 300 {
		s, d, c, ok := made(seed)
		if !ok {
			continue
		}
		p, _ := lower.Of(d, c)
		parts, numbers := map[*api.Lam]int{}, map[*int64]int{}
		for _, x := range listed(p.Body) {
			for i := range x.L {
				parts[&x.L[i]]++
			}
			for _, l := range [][]int64{x.Ns, x.Ts} {
				for i := range l {
					numbers[&l[i]]++
				}
			}
		}
		for _, many := range parts {
			if many > 1 {
				t.Fatalf("seed %d: %s: parts are shared", seed, s)
			}
		}
		for _, many := range numbers {
			if many > 1 {
				t.Fatalf("seed %d: %s: numbers are shared", seed, s)
			}
		}
	}
}

// wildCore makes up a core of any form.
func wildCore(r *rand.Rand, depth int) api.Core {
	c := api.Core{At: r.Intn(100), Kind: pick(r, r.Intn(27)-1, r.Intn(27)-1, 100+r.Intn(11), api.KCase)}
	c.N = pick(r, int64(r.Intn(4)), int64(r.Intn(45)), -1, math.MaxInt64, math.MinInt64)
	c.V = pick(r, r.Intn(4), r.Intn(4), -1, math.MaxInt, math.MinInt)
	c.S = pick(r, "", "()", "true", "[]", "::", "A", "x")
	for depth > 0 && r.Intn(4) > 0 {
		c.L = append(c.L, wildCore(r, depth-1))
	}
	return c
}

// changed tells a core in which a node here and there is another one.
func changed(r *rand.Rand, c api.Core) api.Core {
	switch r.Intn(60) {
	case 0:
		return wildCore(r, 2)
	case 1:
		c.Kind = wildCore(r, 0).Kind
	case 2:
		c.N = wildCore(r, 0).N
	case 3:
		c.V = wildCore(r, 0).V
	case 4:
		c.L = c.L[:r.Intn(len(c.L)+1)]
	}
	var parts []api.Core
	for _, p := range c.L {
		parts = append(parts, changed(r, p))
	}
	c.L = parts
	return c
}

// answers holds that what is answered is a program that may be, or nothing but an error.
func answers(t *testing.T, d api.Decls, c api.Core) api.Errno {
	t.Helper()
	p, e := lower.Of(d, c)
	if e == api.OK && !lam.May(p) || e != api.OK && !reflect.DeepEqual(p, api.Lams{}) {
		t.Fatalf("%s: %d", shown(c), e)
	}
	return e
}

// R1: of any core there is an answer.
func TestAnyCore(t *testing.T) {
	t.Parallel()
	seen := map[api.Errno]int{}
	exns := declared().Exns
	for seed := range 60000 {
		r := rand.New(rand.NewSource(int64(seed)))
		d := api.Decls{Exns: exns}
		if seed%3 == 0 {
			d.Sorts = []api.Sort{{Name: "t", Cons: []api.Con{{Name: "A", Of: []api.Type{{}}}, {Name: "::"}, {Name: "()"}}[:r.Intn(4)]}}
		}
		seen[answers(t, d, wildCore(r, 1+seed%5))]++
	}
	for seed := range 2000 {
		if _, d, c, ok := made(seed); ok {
			seen[answers(t, d, changed(rand.New(rand.NewSource(int64(seed))), c))]++
		}
	}
	if seen[api.OK] < 1000 || seen[api.ErrMany] < 1000 || seen[api.ErrForm] < 1000 || len(seen) != 3 {
		t.Errorf("only %v", seen)
	}
}

// R1: what may not be as it is has an answer, too.
func TestOddOnes(t *testing.T) {
	one, any := num(1), anyone()
	d := declared()
	for _, c := range []api.Core{
		{}, {Kind: -1}, {Kind: api.KOp + 1}, when(any, one), any, {Kind: math.MaxInt}, {Kind: math.MinInt}, at(0), at(-1), k(api.KBuiltin, 0), k(api.KBuiltin, 13), k(api.KBuiltin, -1),
		fun(0, 0, one), fun(0, -1, one), fun(0, math.MinInt64, one), fun(-1, 1, at(-1)), fun(math.MaxInt, 2, one), {Kind: api.KFun, N: 1}, {Kind: api.KRec}, {Kind: api.KRec, N: 1, L: []api.Core{one, one}}, {Kind: api.KRec, N: 2, L: []api.Core{fun(2, 1, one), one}},
		{Kind: api.KGet}, {Kind: api.KSet, L: []api.Core{one}}, {Kind: api.KAt}, {Kind: api.KPut, L: []api.Core{one, one}}, {Kind: api.KApp}, {Kind: api.KApp, L: []api.Core{{}, one}}, {Kind: api.KRaise}, {Kind: api.KLet}, {Kind: api.KLet, L: []api.Core{one}},
		{Kind: api.KIf}, {Kind: api.KIf, L: []api.Core{one}}, {Kind: api.KMatch}, {Kind: api.KMatch, L: []api.Core{{}}}, match(at(0), when(any, one)), match(one, when(any)), match(one, when()), match(one, api.Core{}), match(one, when(api.Core{}, one)), match(one, when(num(1), one), when(any, one)),
		match(one, when(k(api.QAs, 0), at(0))), match(one, when(k(api.QOr, 0), one)), match(one, when(k(api.QOr, 0), one), when(any, one)), match(one, when(either(name(0), name(1)), at(0))), match(one, when(either(qnum(1), name(1)), one)), match(one, when(either(name(0), qnum(1)), one)),
		match(one, when(qcon("()", 0), one), when(qcon("()", 1), one), when(qcon("()", 0, any), one)), match(one, when(qcon("::", 0, any), one), when(qcon("::", 0, any, name(0), any), at(0)), when(qcon("[]", 0), one)), match(one, when(qcon("", -1), one)), match(one, when(qcon("", 200, any), one)), match(one, when(qnum(math.MaxInt64), one), when(qnum(math.MinInt64), one)),
		match(k(api.KTuple, 0, one, one), when(k(api.QTuple, 0, any), one), when(k(api.QTuple, 0, any, any, name(0)), at(0))), match(k(api.KTuple, 0), when(k(api.QTuple, 0), one)), match(k(api.KTuple, 0, at(0)), when(any, one)), {Kind: api.KTry}, {Kind: api.KTry, L: []api.Core{one}}, k(api.KTry, 0, one, when()),
		{Kind: api.KWhile}, {Kind: api.KFor}, {Kind: api.KFor, N: 1, L: []api.Core{one, one}}, {Kind: api.KFor, N: 2, L: []api.Core{one, one, one}}, {Kind: api.KSeq}, k(api.KOp, 0, one, one), k(api.KOp, 12, one, one), k(api.KOp, api.OpNeg), num(math.MaxInt64), con("A", -1), con("A", 200, one), {Kind: api.KGet, N: -1, L: []api.Core{one}}, {Kind: api.KGet, N: 4096, L: []api.Core{one}},
	} {
		answers(t, d, c)
		answers(t, api.Decls{}, c)
		answers(t, d, seq(one, c))
	}
	for _, c := range []api.Core{{}, {Kind: -1}, {Kind: api.KOp + 1}, at(0), let(0, one, at(1)), let(0, one, match(at(1), when(qnum(1), one))), let(0, one, match(one, when(either(padded(qnum(1), 2, 1), qnum(2)), at(1))))} {
		if e := answers(t, d, c); e != api.ErrForm {
			t.Errorf("%s: %d", shown(c), e)
		}
	}
	for _, l := range [][]api.Con{nil, d.Exns[:5], append(d.Exns[:6:6], api.Con{}), append(d.Exns[:6:6], api.Con{Name: "A", N: 5, Of: []api.Type{{}}})} {
		if e := answers(t, api.Decls{Exns: l}, one); e != api.ErrForm {
			t.Errorf("%v: %d", l, e)
		}
	}
}

// R1: what shares parts is as great as it would be without; what is nested deep has an answer.
func TestSharedAndDeep(t *testing.T) {
	d := declared()
	c, of, q := num(1), api.Type{S: "int"}, qnum(1)
	for range 60 {
		c, of, q = seq(c, c), api.Type{S: "*", L: []api.Type{of, of}}, k(api.QTuple, 0, q, q)
	}
	for _, c := range []api.Core{c, match(num(1), when(q, num(1))), match(num(1), when(anyone(), c))} {
		if e := answers(t, d, c); e != api.ErrMany {
			t.Errorf("shared: %d", e)
		}
	}
	answers(t, api.Decls{Exns: append(d.Exns[:6:6], api.Con{Name: "A", N: 1, Of: []api.Type{of}})}, num(1))
	c, of, q = num(1), api.Type{S: "int"}, qnum(1)
	for range 1 << 16 {
		c, of, q = k(api.KOp, api.OpNeg, c), api.Type{S: "list", L: []api.Type{of}}, succ(1, q)
	}
	for _, c := range []api.Core{c, match(num(1), when(q, num(1)))} {
		if e := answers(t, d, c); e != api.ErrMany {
			t.Errorf("deep: %d", e)
		}
	}
	answers(t, api.Decls{Exns: append(d.Exns[:6:6], api.Con{Name: "A", N: 1, Of: []api.Type{of}})}, num(1))
	wide := api.Core{Kind: api.KArray, L: make([]api.Core, 1<<20)}
	if e := answers(t, d, wide); e != api.ErrMany {
		t.Errorf("wide: %d", e)
	}
}
