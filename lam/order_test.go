package lam_test

import (
	"math/rand"
	"strconv"
	"strings"
	"testing"

	"grapnel/api"
	"grapnel/arena"
	"grapnel/lam"
	"grapnel/mem"
	"grapnel/order"
	bytes "grapnel/text"
	"grapnel/word"
)

// The operations that ask an order, and what they tell where it tells -1, 0, 1.
var asks = map[int64]string{api.OpEq: "010", api.OpNe: "101", api.OpLt: "100", api.OpGt: "001", api.OpLe: "110", api.OpGe: "011"}

// P13.1: what an order tells, of pairs of which the first one is less.
func TestLess(t *testing.T) {
	for _, pair := range [][2]api.Lam{
		{num(1), num(2)}, {num(-1), num(0)}, {num(-1 << 62), num(mostInt)}, {text(""), text("a")}, {text("a"), text("ab")}, {text("ab"), text("b")}, {text("a\x7f"), text("a\x80")}, {text("a"), text("a\x00")}, {text("\xfe"), text("\xff")},
		{num(9), block(0)}, {num(mostInt), text("")}, {block(199, num(9)), text("")}, {block(0), block(1)}, {block(0, num(9), num(9)), block(1)}, {block(1), block(1, num(0))}, {block(2, num(9)), block(2, num(0), num(0))}, {block(0, num(1), num(9)), block(0, num(2), num(0))}, {block(0, num(1), num(2)), block(0, num(1), num(3))},
		{block(0, block(0, num(1)), num(9)), block(0, block(0, num(2)), num(0))}, {block(0, text("a"), block(3)), block(0, text("a"), block(4))}, {op(api.OpRef, num(1)), op(api.OpRef, num(2))}, {call(api.BMake, num(3), num(1)), call(api.BMake, num(3), num(2))}, {call(api.BMake, num(2), num(9)), call(api.BMake, num(3), num(1))},
	} {
		for i, two := range [][2]api.Lam{{pair[0], pair[1]}, {pair[0], pair[0]}, {pair[1], pair[0]}} {
			number(t, call(api.BCompare, two[0], two[1]), strconv.Itoa(i-1))
			for n, told := range asks {
				number(t, op(n, two[0], two[1]), told[i:i+1])
			}
		}
	}
}

// P13.1: of functions Invalid_argument is raised, where the order comes to one; not where it is told ahead of that.
func TestOrderOfFunctions(t *testing.T) {
	f := fun(50, 1, num(1))
	for n, told := range asks {
		for _, two := range [][2]api.Lam{{f, f}, {f, num(1)}, {text("a"), f}, {block(0), f}, {block(0, num(1), f), block(0, num(1), f)}, {app(fun(50, 2, num(1)), num(1)), num(1)}} {
			comes(t, op(n, two[0], two[1]), uncaught("Invalid_argument", ""))
			number(t, try(call(api.BCompare, two[0], two[1]), 1, at(1)), "2")
		}
		number(t, op(n, block(0, num(1), f), block(0, num(2), f)), told[:1])
		number(t, op(n, block(0), block(0, f)), told[:1])
		number(t, let(1, block(0, f), op(n, at(1), at(1))), told[1:2])
		number(t, let(1, block(0, f), op(n, block(0, num(1), at(1)), block(0, num(1), at(1)))), told[1:2])
	}
	comes(t, let(1, f, op(api.OpEq, at(1), at(1))), uncaught("Invalid_argument", ""))
	comes(t, call(api.BCompare, block(0, f, num(1)), block(0, f, num(2))), uncaught("Invalid_argument", ""))
}

// A circle is held against itself at once, against another one till there is no fuel.
func TestOrderOfCircles(t *testing.T) {
	circle := func(v int, c api.Lam) api.Lam {
		return let(v, block(0, num(1), num(0)), seq(of(api.LSet, 1, at(v), at(v)), c))
	}
	number(t, circle(1, op(api.OpEq, at(1), at(1))), "1")
	number(t, circle(1, call(api.BCompare, at(1), block(0, num(1), block(0, num(2), num(0))))), "-1")
	for _, fuel := range []int64{100, 5000, enough} {
		p := program(circle(1, circle(2, seq(mark(1), op(api.OpEq, at(1), at(2)), mark(2)))))
		if got := lam.Run(p, nil, fuel); got != (lam.Ending{Kind: lam.OutOfFuel, Out: "1"}) {
			t.Errorf("with %d: %+v", fuel, got)
		}
	}
	wide := func(v int, c api.Lam) api.Lam {
		return let(v, call(api.BMake, num(4096), num(0)), seq(of(api.LPut, 0, at(v), num(0), at(v)), c))
	}
	p := program(wide(1, wide(2, seq(mark(1), op(api.OpEq, at(1), at(2))))))
	if got := lam.Run(p, nil, enough); got != (lam.Ending{Kind: lam.OutOfFuel, Out: "1"}) {
		t.Errorf("%+v", got)
	}
	number(t, circle(1, seq(call(api.BHash, at(1)), num(1))), "1")
}

// thing is a value apart from the runs: a number, a text, or a block.
type thing struct {
	kind   int
	n      int64
	s      string
	fields []*thing
}

const (
	aNumber = iota
	aText
	aBlock
)

// random makes up a thing, of few numbers and texts, so that many are alike.
func random(r *rand.Rand, depth int) *thing {
	switch k := r.Intn(10); {
	case k < 3 || depth == 0:
		return &thing{n: int64(r.Intn(3)) - 1}
	case k < 5:
		return &thing{kind: aText, s: strings.Repeat("ab", 40)[:r.Intn(2)+70*r.Intn(2)]}
	default:
		v := &thing{kind: aBlock, n: pick(r, int64(0), 0, 1, 2, 199)}
		for range r.Intn(4) {
			v.fields = append(v.fields, random(r, depth-1))
		}
		return v
	}
}

func pick[T any](r *rand.Rand, all ...T) T { return all[r.Intn(len(all))] }

// lam tells the node that makes the thing.
func (v *thing) lam() api.Lam {
	switch v.kind {
	case aNumber:
		return num(v.n)
	case aText:
		return text(v.s)
	}
	c := block(v.n)
	for _, f := range v.fields {
		c.L = append(c.L, f.lam())
	}
	return c
}

func (v *thing) lay(m *mem.Mem) api.Word {
	switch v.kind {
	case aNumber:
		return word.Int(v.n)
	case aText:
		w, _, _ := bytes.Lay(m, v.s, nil)
		return w
	}
	var all []api.Word
	for _, f := range v.fields {
		all = append(all, f.lay(m))
	}
	w, _ := m.Arena().Alloc(int(v.n), len(all))
	for i, x := range all {
		m.Arena().Set(w, i, x)
	}
	return w
}

// P13.1: an order tells, and takes, what chapter 6's Compare does with all the room that it may need; hash tells what chapter 6's does.
func TestOrdersAsInAnArena(t *testing.T) {
	seen := map[int]int{}
	for seed := range 3000 {
		r := rand.New(rand.NewSource(int64(seed)))
		v := random(r, 4)
		w := random(r, 4)
		if seed%3 == 0 {
			w = changed(r, v)
		}
		m := mem.New(api.MaxSemi)
		told, taken, e := order.Compare(m.Arena(), v.lay(m), w.lay(m), 1<<20, 1<<30)
		if e != api.OK {
			t.Fatalf("seed %d: order tells %d", seed, e)
		}
		seen[told]++
		compare := call(api.BCompare, v.lam(), w.lam())
		isOrder(t, seed, compare, strconv.Itoa(told), 1+nodes(compare), taken)
		for n, all := range asks {
			c := op(n, v.lam(), w.lam())
			isOrder(t, seed, c, all[told+1:told+2], 1+nodes(c), taken)
		}
		isHash(t, seed, m.Arena(), v.lay(m), v.lam())
	}
	if seen[0] < 300 || seen[1] < 300 || seen[-1] < 300 {
		t.Errorf("only %v", seen)
	}
}

// changed tells a thing that is another one but for a part here and there.
func changed(r *rand.Rand, v *thing) *thing {
	if r.Intn(12) == 0 {
		return random(r, 2)
	}
	w := *v
	w.fields = nil
	for _, f := range v.fields {
		w.fields = append(w.fields, changed(r, f))
	}
	return &w
}

// nodes counts nodes, each of which takes 1.
func nodes(c api.Lam) int64 {
	n := int64(1)
	for _, p := range c.L {
		n += nodes(p)
	}
	return n
}

// isOrder holds that a printed node comes to this with just the fuel that its nodes and pairs take, and doesn't with less.
func isOrder(t *testing.T, seed int, c api.Lam, want string, nodes, pairs int64) {
	t.Helper()
	p := program(say(c))
	if got := lam.Run(p, nil, nodes+pairs); got != done(want) {
		t.Fatalf("seed %d: got %+v, want %s with %d and %d", seed, got, want, nodes, pairs)
	}
	for less := int64(1); less <= pairs; less++ {
		if got := lam.Run(p, nil, nodes+pairs-less); got != (lam.Ending{Kind: lam.OutOfFuel}) {
			t.Fatalf("seed %d: got %+v with %d less than %d and %d", seed, got, less, nodes, pairs)
		}
	}
}

func isHash(t *testing.T, seed int, a *arena.Arena, w api.Word, c api.Lam) {
	t.Helper()
	want, e := order.Hash(a, w, 1<<20)
	if e != api.OK {
		t.Fatalf("seed %d: order tells %d", seed, e)
	}
	p := program(say(call(api.BHash, c)))
	if got := lam.Run(p, nil, nodes(p.Body)); got != done(word.Digits(want)) {
		t.Fatalf("seed %d: got %+v, want %s", seed, got, word.Digits(want))
	}
}

// P13.1: each pair that is held against each other takes 1; where a function is met, its pair has taken it, too.
func TestFuelOfOrders(t *testing.T) {
	f := fun(50, 1, num(1))
	for _, one := range []struct {
		a, b  api.Lam
		pairs int64
	}{
		{num(1), num(2), 1}, {text("abc"), text("abc"), 1}, {block(0, num(1), num(2)), block(0, num(1), num(3)), 3}, {block(0, num(1), num(2)), block(0, num(2), num(3)), 2}, {block(0, num(1)), block(0, num(1), num(2)), 1}, {block(0), block(0), 1}, {f, f, 1}, {num(1), f, 1},
		{block(0, block(0, num(1), num(2)), block(0, num(3))), block(0, block(0, num(1), num(2)), block(0, num(3))), 6}, {block(0, block(0, num(1), num(2)), block(0, num(3))), block(0, block(0, num(1), num(5)), block(0, num(3))), 4}, {block(0, num(1), f), block(0, num(1), num(2)), 3}, {block(0, block(0), f), block(0, num(1), num(2)), 2},
	} {
		takes(t, op(api.OpEq, one.a, one.b), 1+nodes(one.a)+nodes(one.b)+one.pairs-functionBodies(one.a, one.b))
		takes(t, call(api.BCompare, one.a, one.b), 1+nodes(one.a)+nodes(one.b)+one.pairs-functionBodies(one.a, one.b))
	}
	takes(t, let(1, block(0, num(1), num(2)), op(api.OpLt, at(1), at(1))), 1+3+3+1)
	takes(t, let(1, block(0, num(1), num(2)), op(api.OpLt, block(0, at(1), num(1)), block(0, at(1), num(1)))), 1+3+7+3)
}

// functionBodies counts the nodes within functions: they aren't worked out.
func functionBodies(all ...api.Lam) int64 {
	n := int64(0)
	for _, c := range all {
		if c.Kind == api.LFun {
			n += nodes(c) - 1
			continue
		}
		n += functionBodies(c.L...)
	}
	return n
}

// MaxStack is no bound of an order: more pairs wait than a stack has words.
func TestWideOrders(t *testing.T) {
	wide := func(v int, last api.Lam) api.Lam {
		return let(v, call(api.BMake, num(4096), num(0)), seq(of(api.LPut, 0, at(v), num(4095), last), at(v)))
	}
	within := func(v int, c api.Lam) api.Lam {
		return let(v, call(api.BMake, num(4096), num(0)), seq(of(api.LPut, 0, at(v), num(0), c), at(v)))
	}
	c := func(n int64) api.Lam { return within(4, within(5, within(6, wide(7, num(n))))) }
	number(t, call(api.BCompare, c(1), c(2)), "-1")
	number(t, call(api.BCompare, c(3), c(3)), "0")
}

// P13.1: hash goes through 24 values, and of a text through 64 bytes; it raises where a function is among those values.
func TestHash(t *testing.T) {
	hash := func(c api.Lam) api.Lam { return call(api.BHash, c) }
	number(t, hash(num(5)), "222")
	number(t, hash(num(-8)), "209")
	number(t, hash(text("")), "220")
	number(t, hash(text("a")), "6917")
	number(t, hash(block(0, num(7), num(8))), strconv.Itoa(((31*7+2)*31+7)*31+8))
	number(t, hash(block(3, num(7))), strconv.Itoa((31*7+15+1)*31+7))
	same := func(a, b api.Lam, want string) { number(t, op(api.OpEq, hash(a), hash(b)), want) }
	long := strings.Repeat("a", 63)
	same(text(long+"b"), text(long+"bc"), "1")
	same(text(long+"b"), text(long+"c"), "0")
	f := fun(50, 1, num(1))
	for _, one := range []struct {
		many, at int
		told     string
	}{{2, 0, "0"}, {23, 22, "0"}, {24, 22, "0"}, {24, 23, "1"}, {40, 22, "0"}, {40, 23, "1"}, {40, 39, "1"}} {
		tuple := func(c api.Lam) api.Lam {
			b := block(0)
			for i := range one.many {
				b.L = append(b.L, num(1))
				if i == one.at {
					b.L[i] = c
				}
			}
			return b
		}
		number(t, try(seq(hash(tuple(f)), num(1)), 1, num(0)), one.told)
		same(tuple(num(2)), tuple(num(3)), one.told)
	}
	comes(t, hash(f), uncaught("Invalid_argument", ""))
	comes(t, hash(block(0, num(1), block(0, app(fun(50, 2, num(1)), num(1))))), uncaught("Invalid_argument", ""))
	number(t, seq(hash(call(api.BMake, num(4096), call(api.BMake, num(4096), num(1)))), num(1)), "1")
	takes(t, hash(block(0, num(1), block(0, num(2), num(3)))), 6) // values that are gone through take nothing
}
