package simp_test

import (
	"math/rand"
	"slices"

	"grapnel/api"
)

// spoiler lays spare nodes into a program: what becomes of that is what becomes of the program without them.
type spoiler struct {
	r     *rand.Rand
	often int // of a hundred nodes so many get something spare around them
}

// ownNumbers is where the spoiler's variables and LCatches begin; the programs have none there.
const ownNumbers = 5000

// scope is what is around a node.
type scope struct {
	live  []int      // the program's variables
	own   int        // how many variables of the spoiler's there are: from ownNumbers on
	dead  []int      // those of them that stand nowhere in what stays
	stand []standing // the others
	reach []leading
	taken int // how many LCatches of the spoiler's are around, in the same function
}

// standing is a variable that is a number, or another variable.
type standing struct {
	v  int
	is api.Lam
}

// leading is an LCatch that an LExit may lead to, with so many parts.
type leading struct {
	n    int64
	many int
}

func more[T any](l []T, x ...T) []T { return append(slices.Clone(l), x...) }

func (a scope) bound(vars ...int) scope {
	a.live = more(a.live, vars...)
	return a
}

func (a scope) inFunction() scope {
	a.reach, a.taken = nil, 0
	return a
}

func (a scope) guarded() scope {
	a.reach = nil
	return a
}

// fresh tells a variable that isn't around, and what is around where it is.
func (a scope) fresh() (int, scope) {
	v := ownNumbers + a.own
	a.own++
	return v, a
}

// buried tells a variable that stands nowhere in what stays.
func (a scope) buried() (int, scope) {
	v, a := a.fresh()
	a.dead = more(a.dead, v)
	return v, a
}

// anyVar tells a variable that is around.
func (s *spoiler) anyVar(a scope) (api.Lam, bool) {
	vars := more(a.live, a.dead...)
	for _, x := range a.stand {
		vars = append(vars, x.v)
	}
	if len(vars) == 0 {
		return num(3), false
	}
	return at(pick(s.r, vars...)), true
}

// junk makes up a node that no run comes to.
func (s *spoiler) junk(a scope, depth int) api.Lam {
	if depth == 0 {
		return s.plain(a, 0)
	}
	part := func() api.Lam { return s.junk(a, depth-1) }
	v, b := a.buried()
	switch s.r.Intn(9) {
	case 0:
		return say(part())
	case 1:
		return raise(part())
	case 2, 3:
		if len(a.reach) == 0 {
			return seq(part(), part())
		}
		to := pick(s.r, a.reach...)
		c := exit(to.n)
		for range to.many {
			c.L = append(c.L, part())
		}
		return c
	case 4:
		return let(v, part(), s.junk(b, depth-1))
	case 5:
		return app(part(), part())
	case 6:
		return try(s.junk(a.guarded(), depth-1), v, s.junk(b, depth-1))
	case 7:
		return branch(part(), part(), part())
	}
	return s.plain(a, depth)
}

// plain makes up a plain node.
func (s *spoiler) plain(a scope, depth int) api.Lam {
	switch s.r.Intn(4) {
	case 0:
		return num(int64(s.r.Intn(5)))
	case 1:
		return text("a")
	case 2:
		c, _ := s.anyVar(a)
		return c
	}
	v, b := a.buried()
	return fun(v, 1, s.junk(b.inFunction(), max(depth-1, 0)))
}

// spoiled lays spare nodes into a node, and around it.
func (s *spoiler) spoiled(c api.Lam, a scope) api.Lam {
	if s.r.Intn(100) >= s.often {
		return s.within(c, a)
	}
	switch s.r.Intn(9) {
	case 0, 1:
		return s.named(c, a)
	case 2:
		v, b := a.buried()
		return let(v, s.plain(a, 2), s.spoiled(c, b))
	case 3:
		return seq(s.plain(a, 2), s.spoiled(c, a))
	case 4:
		if s.r.Intn(2) == 0 {
			return branch(num(0), s.junk(a, 2), s.spoiled(c, a))
		}
		return branch(s.spoiled(num(pick(s.r, int64(1), -1, 2, leastInt, mostInt)), a), s.spoiled(c, a), s.junk(a, 2))
	case 5:
		return s.switched(c, a)
	case 6, 7:
		return s.caught(c, a)
	}
	if c.Kind == api.LInt {
		return s.reckoned(c.N, a)
	}
	return s.within(c, a)
}

// named lays an LLet of a number or a variable around a node.
func (s *spoiler) named(c api.Lam, a scope) api.Lam {
	is, ok := s.anyVar(a)
	if !ok || s.r.Intn(2) == 0 {
		is = num(pick(s.r, int64(s.r.Intn(5)), leastInt, mostInt, -1))
	}
	if c.Kind == api.LInt && s.r.Intn(2) == 0 {
		is = c
	}
	v, b := a.fresh()
	if is.Kind == api.LVar && slices.Contains(a.dead, is.V) {
		b.dead = more(a.dead, v)
		return let(v, is, s.spoiled(c, b))
	}
	resolved := is
	for _, x := range a.stand {
		if is.Kind == api.LVar && x.v == is.V {
			resolved = x.is
		}
	}
	b.stand = more(a.stand, standing{v, resolved})
	return let(v, s.spoiled(is, a), s.spoiled(c, b))
}

// switched lays an LSwitch on a number around a node.
func (s *spoiler) switched(c api.Lam, a scope) api.Lam {
	var parts []api.Lam
	ns, ts := []int64{-4, 0, 2, mostInt}[:s.r.Intn(5)], []int64{0, 2, 7}[:s.r.Intn(4)]
	for range len(ns) + len(ts) + 1 {
		parts = append(parts, s.junk(a, 1))
	}
	k, n := len(parts)-1, int64(7)
	if len(ns) > 0 && s.r.Intn(3) > 0 {
		k = s.r.Intn(len(ns))
		n = ns[k]
	}
	parts[k] = s.spoiled(c, a)
	return choose(ns, ts, append([]api.Lam{s.spoiled(num(n), a)}, parts...)...)
}

// caught lays an LCatch around a node, to which no LExit leads from what stays.
func (s *spoiler) caught(c api.Lam, a scope) api.Lam {
	n := int64(ownNumbers + a.taken)
	b, second := a, a
	var ns []int64
	for range s.r.Intn(3) {
		var v int
		v, second = second.buried()
		ns = append(ns, int64(v))
	}
	b.taken++
	b.reach = more(a.reach, leading{n, len(ns)})
	first := s.spoiled(c, b)
	if s.r.Intn(2) == 0 {
		to := exit(n)
		for range ns {
			to.L = append(to.L, s.junk(b, 1))
		}
		first = branch(num(1), first, seq(s.junk(b, 1), to))
	}
	return catch(n, ns, first, s.junk(second, 2))
}

// reckoned tells an operation that comes to a number.
func (s *spoiler) reckoned(n int64, a scope) api.Lam {
	cut := func(n int64) api.Lam { return s.spoiled(num(n<<1>>1), a) }
	k := s.r.Int63() >> uint(s.r.Intn(63))
	switch s.r.Intn(6) {
	case 0:
		return add(cut(k), cut(n-k))
	case 1:
		return op(api.OpSub, cut(n+k), cut(k))
	case 2:
		return op(api.OpXor, cut(n^k), cut(k))
	case 3:
		return op(api.OpNeg, cut(-n))
	case 4:
		return op(api.OpMul, cut(-n), cut(-1))
	}
	if n == 0 || n == 1 {
		return op(api.OpNot, cut(1-n))
	}
	return op(api.OpDiv, cut(-n), cut(-1))
}

// within lays spare nodes into a node's parts.
func (s *spoiler) within(c api.Lam, a scope) api.Lam {
	inner, from := a, len(c.L)-1 // what is around the last parts, from that one on
	first := a
	switch c.Kind {
	case api.LInt, api.LVar:
		for _, x := range a.stand {
			if equal(x.is, c) && s.r.Intn(2) == 0 {
				return at(x.v)
			}
		}
		return c
	case api.LFun:
		inner, from = a.bound(varsFrom(c.V, c.N)...).inFunction(), 0
	case api.LRec:
		inner, from = a.bound(varsFrom(c.V, c.N)...), 0
	case api.LLet, api.LFor:
		inner = a.bound(c.V)
	case api.LTry:
		first, inner = a.guarded(), a.bound(c.V)
	case api.LCatch:
		first.reach = more(a.reach, leading{c.N, len(c.Ns)})
		for _, v := range c.Ns {
			inner = inner.bound(int(v))
		}
	}
	parts := c.L
	c.L = nil
	for i, p := range parts {
		switch {
		case c.Kind == api.LRec && i < len(parts)-1: // a function must stay one
			c.L = append(c.L, s.within(p, inner))
		case i < from:
			c.L = append(c.L, s.spoiled(p, first))
		default:
			c.L = append(c.L, s.spoiled(p, inner))
		}
	}
	return c
}

// varsFrom tells so many variables, from v on.
func varsFrom(v int, many int64) []int {
	var vars []int
	for i := range int(many) {
		vars = append(vars, v+i)
	}
	return vars
}
