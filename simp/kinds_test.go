package simp_test

import (
	"math/big"
	"math/rand"
	"testing"

	"grapnel/api"
	"grapnel/lam"
	"grapnel/simp"
)

// P15.1: an LSeq is spare, if its first part is plain; whatever the second one is.
func TestSeqs(t *testing.T) {
	n := read()
	for _, c := range []api.Lam{num(1), text("a"), fun(5, 1, at(5)), n, say(n), raise(num(1)), block(0), seq(n, num(3))} {
		for _, a := range []api.Lam{num(0), num(mostInt), text(""), text("b"), fun(7, 1, say(at(7))), fun(7, 30, at(36))} {
			becomes(t, seq(a, c), c, "4", "5")
			becomes(t, seq(a, a, a, c), c, "4", "5")
			becomes(t, seq(n, a, c), seq(n, c), "4", "5")
		}
		becomes(t, app(fun(9, 1, seq(at(9), c)), num(1)), app(fun(9, 1, c), num(1)), "4", "5")
		for _, a := range []api.Lam{n, say(num(2)), block(0), app(fun(7, 1, at(7)), num(1)), op(api.OpRem, num(1), num(0)), op(api.OpCat, text("a"), text("b")), raise(num(1)), let(7, n, at(7)), rec(7, fun(8, 1, at(8)), num(1)), branch(n, num(1), num(2)), while(num(0), num(1)), try(num(1), 7, num(2))} {
			stays(t, seq(a, c), "4", "5")
		}
	}
	becomes(t, of(api.LSeq, 0, seq(num(1), num(2)), n), n, "4")
	becomes(t, of(api.LSeq, 0, seq(n, num(2)), n), of(api.LSeq, 0, seq(n, num(2)), n), "4", "5")
}

// P15.1: an LIf on a number is its second part, or, on 0, its third one.
func TestIfs(t *testing.T) {
	a, b := say(num(1)), say(num(2))
	for _, n := range []int64{1, 2, -1, mostInt, leastInt} {
		becomes(t, branch(num(n), a, b), a)
	}
	becomes(t, branch(num(0), a, b), b)
	for _, c := range []api.Lam{read(), text("a"), block(0), block(0, num(1)), fun(1, 1, at(1)), op(api.OpEq, num(1), num(1)), op(api.OpDiv, num(1), num(0)), seq(say(num(4)), num(1)), raise(num(1)), let(1, say(num(4)), num(0)), rec(1, fun(2, 1, at(2)), num(0))} {
		stays(t, branch(c, a, b), "0")
		stays(t, branch(c, a, b), "2")
	}
	becomes(t, branch(branch(num(0), num(5), num(0)), a, branch(num(3), branch(read(), num(1), num(7)), b)), branch(read(), num(1), num(7)), "0")
	becomes(t, app(fun(1, 1, branch(at(1), branch(num(0), a, b), a)), num(1)), app(fun(1, 1, branch(at(1), b, a)), num(1)))
}

// P15.1: an LSwitch on a number is the part of that number, or else the last one; no tag is a number.
func TestSwitches(t *testing.T) {
	part := func(n int) api.Lam { return say(num(int64(n))) }
	parts := func(c api.Lam, many int) []api.Lam {
		l := []api.Lam{c}
		for i := range many {
			l = append(l, part(i))
		}
		return l
	}
	ns := []int64{leastInt, -3, 0, 1, 2, 7, mostInt}
	for i, n := range ns {
		becomes(t, choose(ns, nil, parts(num(n), 8)...), part(i))
		becomes(t, choose(ns, []int64{0, 1, 5, 199}, parts(num(n), 12)...), part(i))
		becomes(t, choose(ns[i:i+1], []int64{0, 1, 5, 199}, parts(num(n), 6)...), part(0))
	}
	for _, n := range []int64{leastInt + 1, -2, -1, 3, 5, 199, mostInt - 1} {
		becomes(t, choose(ns, nil, parts(num(n), 8)...), part(7))
		becomes(t, choose(ns, []int64{0, 1, 5, 199}, parts(num(n), 12)...), part(11))
		becomes(t, choose(nil, []int64{0, 1, 3, 5, 199}, parts(num(n), 6)...), part(5))
		becomes(t, choose(nil, nil, parts(num(n), 1)...), part(0))
	}
	for _, c := range []api.Lam{read(), block(0), block(5, num(1)), text("a"), fun(1, 1, at(1)), op(api.OpLt, num(1), num(2)), op(api.OpRem, num(1), num(0)), seq(say(num(4)), num(1))} {
		stays(t, choose(ns, []int64{0, 1, 5, 199}, parts(c, 12)...), "7")
		stays(t, choose(nil, nil, parts(c, 1)...), "7")
	}
	becomes(t, choose([]int64{3}, nil, add(num(1), num(2)), choose(nil, []int64{1}, num(1), part(5), part(6)), part(7)), part(6))
}

// wrapped tells the number of 63 bits that one of any length comes to.
func wrapped(n *big.Int) int64 {
	m := new(big.Int).And(n, new(big.Int).Sub(new(big.Int).Lsh(big.NewInt(1), 63), big.NewInt(1)))
	if m.Bit(62) == 1 {
		m.Sub(m, new(big.Int).Lsh(big.NewInt(1), 63))
	}
	return m.Int64()
}

// operated tells what an operation on numbers comes to, reckoned by numbers of any length; false: it is a quotient by 0.
func operated(n int64, x, y int64) (int64, bool) {
	a, b, z := big.NewInt(x), big.NewInt(y), new(big.Int)
	switch n {
	case api.OpAdd:
		z.Add(a, b)
	case api.OpSub:
		z.Sub(a, b)
	case api.OpMul:
		z.Mul(a, b)
	case api.OpDiv, api.OpRem:
		if y == 0 {
			return 0, false
		}
		if z.Quo(a, b); n == api.OpRem {
			z.Rem(a, b)
		}
	case api.OpAnd:
		z.And(a, b)
	case api.OpOr:
		z.Or(a, b)
	case api.OpXor:
		z.Xor(a, b)
	case api.OpShl:
		if y >= 0 && y < 63 {
			z.Lsh(a, uint(y))
		}
	case api.OpShr:
		z.Rsh(a, 70)
		if y >= 0 && y < 63 {
			z.Rsh(a, uint(y))
		}
	case api.OpLess:
		if x < y {
			z.SetInt64(1)
		}
	}
	return wrapped(z), true
}

// P15.1: an LOp on numbers, all of whose parts are LInts, is a number; a quotient by 0 stays.
func TestOperations(t *testing.T) {
	edges := []int64{leastInt, leastInt + 1, -64, -63, -7, -2, -1, 0, 1, 2, 3, 7, 61, 62, 63, 64, 1 << 31, 1 << 40, mostInt - 1, mostInt}
	r := rand.New(rand.NewSource(1))
	for range 12 {
		edges = append(edges, r.Int63()>>uint(1+r.Intn(62)), -(r.Int63() >> uint(1+r.Intn(62))))
	}
	for _, x := range edges {
		is(t, op(api.OpNeg, num(x)), wrapped(new(big.Int).Neg(big.NewInt(x))))
		no := int64(0)
		if x == 0 {
			no = 1
		}
		is(t, op(api.OpNot, num(x)), no)
		for _, y := range edges {
			for n := int64(api.OpAdd); n <= api.OpLess; n++ {
				c := op(n, num(x), num(y))
				if want, ok := operated(n, x, y); ok {
					is(t, c, want)
				} else {
					stays(t, c)
				}
			}
		}
	}
}

// is holds that a body becomes a number, and that the run comes to that, too.
func is(t *testing.T, body api.Lam, want int64) {
	t.Helper()
	p := program(say(body))
	q, e := simp.Of(p)
	a, b := lam.Run(p, nil, 9), lam.Run(q, nil, 2)
	if e != api.OK || !equal(q.Body, say(num(want))) || a != b || b.Kind != lam.Ended || simp.Clean(p) || !simp.Clean(q) {
		t.Errorf("%s: got %s, want %d: %+v, %+v", shown(body), shown(q.Body), want, a, b)
	}
}

// P15.1: an LOp of what isn't all LInts, or one that isn't on numbers, isn't spare.
func TestOtherOperations(t *testing.T) {
	n := read()
	for k := int64(api.OpAdd); k <= api.OpLess; k++ {
		for _, c := range []api.Lam{n, text("a"), block(0), say(num(1)), fun(1, 1, at(1)), op(api.OpDiv, num(1), num(0))} {
			stays(t, op(k, c, num(1)), "4")
			stays(t, op(k, num(1), c), "4")
			stays(t, op(k, c, c), "4", "5")
		}
	}
	for _, c := range []api.Lam{n, text("a"), block(0), say(num(1)), fun(1, 1, at(1)), op(api.OpRem, num(1), num(0))} {
		stays(t, op(api.OpNeg, c), "4")
		stays(t, op(api.OpNot, c), "4")
	}
	for k := int64(api.OpEq); k <= api.OpGe; k++ {
		stays(t, op(k, num(1), num(1)))
		stays(t, op(k, num(1), num(2)))
		becomes(t, op(k, add(num(1), num(1)), num(2)), op(k, num(2), num(2)))
	}
	for _, c := range []api.Lam{op(api.OpCat, num(1), num(2)), op(api.OpCat, text("a"), text("b")), op(api.OpRef, num(1)), op(api.OpDeref, num(1)), op(api.OpDeref, op(api.OpRef, num(1))), op(api.OpAssign, num(1), num(2)), op(api.OpAssign, op(api.OpRef, num(1)), num(2))} {
		stays(t, c)
	}
	becomes(t, app(fun(1, 1, op(api.OpMul, at(1), add(num(2), num(3)))), n), app(fun(1, 1, op(api.OpMul, at(1), num(5))), n), "4")
	becomes(t, op(api.OpAdd, op(api.OpDiv, num(1), op(api.OpSub, num(2), num(2))), op(api.OpMul, num(2), num(3))), add(op(api.OpDiv, num(1), num(0)), num(6)))
	becomes(t, add(op(api.OpNeg, op(api.OpNeg, num(3))), op(api.OpNot, op(api.OpNot, num(7)))), num(4))
}

// P15.1: what becomes spare only as something else has been made simpler.
func TestOneBecauseOfTheOther(t *testing.T) {
	a, b, n := say(num(1)), say(num(2)), read()
	becomes(t, let(1, add(num(1), num(2)), branch(op(api.OpLess, at(1), num(9)), a, b)), a)
	becomes(t, let(1, branch(num(1), num(0), n), choose([]int64{0}, nil, at(1), a, b)), a)
	becomes(t, let(1, seq(text("a"), num(4)), let(2, op(api.OpMul, at(1), at(1)), say(op(api.OpSub, at(2), at(1))))), say(num(12)))
	becomes(t, let(1, n, let(2, branch(num(1), at(1), num(5)), add(at(2), at(2)))), let(1, n, add(at(1), at(1))), "4")
	becomes(t, let(1, catch(3, nil, num(5), n), add(at(1), num(1))), num(6))
	becomes(t, catch(3, []int64{4}, let(1, num(0), branch(at(1), exit(3, n), num(7))), at(4)), num(7))
	becomes(t, let(1, catch(3, nil, branch(num(1), num(2), exit(3)), n), at(1)), num(2))
	becomes(t, seq(branch(num(1), text("a"), n), let(1, n, num(3)), a), seq(let(1, n, num(3)), a), "4")
	becomes(t, of(api.LSeq, 0, let(1, num(1), fun(2, 1, at(1))), a), a)
	becomes(t, let(1, let(2, text("a"), fun(3, 1, num(4))), a), a)
	becomes(t, let(1, let(2, text("a"), fun(3, 1, at(2))), a), let(1, let(2, text("a"), fun(3, 1, at(2))), a))
	becomes(t, choose([]int64{1}, nil, catch(3, nil, seq(num(4), num(1)), b), a, b), a)
	becomes(t, op(api.OpRem, num(7), branch(num(0), num(0), num(4))), num(3))
	becomes(t, op(api.OpRem, num(7), branch(num(1), num(0), num(4))), op(api.OpRem, num(7), num(0)))
	becomes(t, branch(op(api.OpDiv, num(5), op(api.OpSub, num(3), num(2))), seq(num(9), n), b), n, "4")
}
