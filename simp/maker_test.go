package simp_test

import (
	"math/rand"
	"slices"

	"grapnel/api"
)

// shape tells what a made-up node comes to, so that as a rule what is asked of it can be done.
type shape struct {
	kind  int
	tag   int64
	parts []*shape // of a block its fields, of an array its elements, of a function its parameters, and what it comes to
}

const (
	isNumber = iota
	isText
	isBlock
	isArray
	isFunction
	isNothing // that is asked for
)

var aNum, aTxt = &shape{}, &shape{kind: isText}

// bound is a variable, and what it is; open is an LCatch, and what its exits have.
type bound struct {
	v  int
	is *shape
}

type open struct {
	n  int64
	is []*shape
}

// maker makes up programs that may be: each node is made for a shape that is wanted.
// Of a thousand choices wild are made without heed: then what comes of it may be Wrong.
type maker struct {
	r     *rand.Rand
	wild  int
	more  int // how many nodes there may still be, about
	next  int // a number that no variable has
	vars  []bound
	reach []open  // the LCatches that an exit may lead to
	taken []int64 // the numbers that an LCatch may not have
	core  bool    // just what a core has, too
}

func newMaker(seed int64, wild, more int) *maker {
	return &maker{r: rand.New(rand.NewSource(seed)), wild: wild, more: more}
}

func (m *maker) heedless() bool { return m.r.Intn(1000) < m.wild }

func same(a, b *shape) bool {
	return a.kind == b.kind && a.tag == b.tag && slices.EqualFunc(a.parts, b.parts, same)
}

// some makes up a shape of up to that depth.
func (m *maker) some(depth int) *shape {
	k := m.r.Intn(12)
	switch {
	case depth == 0 || k < 5:
		return pick(m.r, aNum, aNum, aNum, aTxt)
	case k < 8:
		s := &shape{kind: isBlock, tag: pick(m.r, int64(0), 0, 1, 2, 199)}
		for range 1 + m.r.Intn(3) {
			s.parts = append(s.parts, m.some(depth-1))
		}
		return s
	case k < 10:
		return &shape{kind: isArray, parts: []*shape{m.some(depth - 1)}}
	}
	return m.function(m.some(depth - 1))
}

// function makes up the shape of a function that comes to something.
func (m *maker) function(to *shape) *shape {
	s := &shape{kind: isFunction}
	for range 1 + m.r.Intn(3) {
		s.parts = append(s.parts, m.some(1))
	}
	s.parts = append(s.parts, to)
	return s
}

// held makes up a shape of what is held against each other: as a rule there is no function in it.
func (m *maker) held() *shape {
	s := m.some(2)
	for m.r.Intn(12) > 0 && hasFunction(s) {
		s = m.some(2)
	}
	return s
}

func hasFunction(s *shape) bool {
	return s.kind == isFunction || slices.ContainsFunc(s.parts, hasFunction)
}

// fresh tells the first of some numbers, one behind the other, that no variable around has.
func (m *maker) fresh(many int) int {
	v := m.next
	if m.r.Intn(2) == 0 { // one that another place may have, too
		v = m.r.Intn(8)
		for slices.ContainsFunc(m.vars, func(b bound) bool { return b.v >= v && b.v < v+many }) {
			v++
		}
	}
	m.next = max(m.next, v+many)
	return v
}

// with tells what f tells while variables are bound.
func (m *maker) with(v int, is []*shape, f func() api.Lam) api.Lam {
	around := len(m.vars)
	for i, s := range is {
		m.vars = append(m.vars, bound{v + i, s})
	}
	c := f()
	m.vars = m.vars[:around]
	return c
}

// inFunction tells what f tells where no exit leads outside.
func (m *maker) inFunction(f func() api.Lam) api.Lam {
	reach, taken := m.reach, m.taken
	m.reach, m.taken = nil, nil
	c := f()
	m.reach, m.taken = reach, taken
	return c
}

// program makes up a whole program.
func (m *maker) program() api.Lams {
	var all []api.Lam
	for range 1 + m.r.Intn(3) {
		m.more = max(m.more, 20)
		if m.r.Intn(4) == 0 {
			all = append(all, m.seen())
		} else {
			all = append(all, m.guarded(m.seen))
		}
	}
	return program(seq(append(all, num(0))...))
}

// guarded makes up an LTry around what f makes up.
func (m *maker) guarded(f func() api.Lam) api.Lam {
	reach := m.reach
	m.reach = nil
	a := f()
	m.reach = reach
	v := m.fresh(1)
	b := m.with(v, []*shape{m.caught()}, func() api.Lam {
		if m.core {
			return say(choose([]int64{0, 1, 2, 3, 5}, nil, at(v), num(10), num(11), num(12), num(13), m.expr(aNum), num(15)))
		}
		if m.r.Intn(2) == 0 {
			return say(choose([]int64{0, 1, 2, 3, 5}, []int64{0, 1}, at(v), num(10), num(11), num(12), num(13), m.expr(aNum), num(15), num(16), num(17)))
		}
		return m.seen()
	})
	return try(a, v, b)
}

// caught tells as what one takes what was raised: it may be something else.
func (m *maker) caught() *shape {
	if m.core {
		return &shape{kind: isNothing}
	}
	return aNum
}

// seen makes up a node that shows what another one comes to.
func (m *maker) seen() api.Lam {
	switch m.r.Intn(4) {
	case 0:
		return say(m.expr(aNum))
	case 1:
		return call(api.BPrint, m.expr(aTxt))
	case 2:
		return say(call(api.BHash, m.expr(m.held())))
	}
	s := m.held()
	return say(call(api.BCompare, m.expr(s), m.expr(s)))
}

// use tells a variable that is what is wanted, or applied to so much that it is.
func (m *maker) use(want *shape) (api.Lam, bool) {
	for _, i := range m.r.Perm(len(m.vars)) {
		b := m.vars[i]
		if same(b.is, want) {
			return at(b.v), true
		}
		if last := len(b.is.parts) - 1; b.is.kind == isFunction && same(b.is.parts[last], want) && m.more > 0 {
			return m.applied(at(b.v), b.is.parts[:last]), true
		}
	}
	return api.Lam{}, false
}

// applied applies a function at once, or piece by piece.
func (m *maker) applied(f api.Lam, params []*shape) api.Lam {
	if k := m.r.Intn(len(params) + 2); k > 0 && k < len(params) {
		return m.applied(m.applied(f, params[:k]), params[k:])
	}
	parts := []api.Lam{f}
	for _, s := range params {
		parts = append(parts, m.expr(s))
	}
	return app(parts...)
}

// expr makes up a node that comes to what is wanted.
func (m *maker) expr(want *shape) api.Lam {
	m.more--
	if m.heedless() {
		want = m.some(2)
	}
	if m.heedless() && len(m.vars) > 0 {
		return pick(m.r, at(pick(m.r, m.vars...).v), app(at(pick(m.r, m.vars...).v), at(pick(m.r, m.vars...).v)))
	}
	if m.r.Intn(3) == 0 || m.more < 0 {
		if c, ok := m.use(want); ok {
			return c
		}
	}
	switch k := m.r.Intn(24); {
	case m.more < 0 || k < 4:
		return m.made(want)
	case k < 12:
		return m.guided(want)
	case k < 18:
		return m.takenOut(want)
	case k < 20:
		return m.leaving(want)
	case k == 20:
		return seq(say(num(int64(m.r.Intn(9)))), m.expr(want))
	}
	return m.made(want)
}

// guided makes up a node that chooses, or binds.
func (m *maker) guided(want *shape) api.Lam {
	k := m.r.Intn(8)
	if m.core && k > 2 && k < 6 {
		k = m.r.Intn(3)
	}
	switch k {
	case 0:
		s, v := m.some(2), m.fresh(1)
		return let(v, m.expr(s), m.with(v, []*shape{s}, func() api.Lam { return m.expr(want) }))
	case 1:
		of := pick(m.r, aNum, aNum, m.some(1))
		if m.core {
			of = aNum
		}
		return branch(m.expr(of), m.expr(want), m.expr(want))
	case 2:
		return choose([]int64{0, 2, 3}, nil, m.expr(aNum), m.expr(want), m.expr(want), m.expr(want), m.expr(want))
	case 3:
		return choose([]int64{1}, []int64{0, 1, 199}, m.expr(m.some(2)), m.expr(want), m.expr(want), m.expr(want), m.expr(want), m.expr(want))
	case 4, 5:
		return m.catch(want)
	case 6:
		return seq(m.expr(m.some(1)), m.expr(want))
	}
	return m.rec(want)
}

func (m *maker) catch(want *shape) api.Lam {
	n := int64(m.r.Intn(4))
	for slices.Contains(m.taken, n) {
		n += 1 + int64(m.r.Intn(3))
	}
	var is []*shape
	var ns []int64
	v := m.fresh(3)
	for i := range m.r.Intn(4) {
		is, ns = append(is, m.some(1)), append(ns, int64(v+i))
	}
	m.reach, m.taken = append(slices.Clone(m.reach), open{n, is}), append(slices.Clone(m.taken), n)
	first := m.expr(want)
	if len(m.reach) > 0 && m.r.Intn(2) == 0 {
		first = seq(m.expr(m.some(1)), branch(m.expr(aNum), m.exit(m.reach[len(m.reach)-1]), first))
	}
	m.reach, m.taken = m.reach[:len(m.reach)-1], m.taken[:len(m.taken)-1]
	return catch(n, ns, first, m.with(v, is, func() api.Lam { return m.expr(want) }))
}

func (m *maker) exit(to open) api.Lam {
	var parts []api.Lam
	for _, s := range to.is {
		parts = append(parts, m.expr(s))
	}
	return exit(to.n, parts...)
}

// rec makes up functions that count down, as a rule, and a call of one of them.
func (m *maker) rec(want *shape) api.Lam {
	many := 1 + m.r.Intn(2)
	v := m.fresh(many)
	is := &shape{kind: isFunction, parts: []*shape{aNum, m.some(1), want}}
	all := slices.Repeat([]*shape{is}, many)
	return m.with(v, all, func() api.Lam {
		var parts []api.Lam
		for range many {
			p := m.fresh(2)
			parts = append(parts, fun(p, 2, m.inFunction(func() api.Lam {
				return m.with(p, is.parts[:2], func() api.Lam {
					again := app(at(v+m.r.Intn(many)), less(at(p)), m.expr(is.parts[1]))
					return branch(op(api.OpLess, num(0), at(p)), m.around(again, want), m.expr(want))
				})
			})))
		}
		return rec(v, append(parts, app(at(v), num(int64(m.r.Intn(6))), m.expr(is.parts[1])))...)
	})
}

// around makes up a node that comes to what another one comes to, or to something else behind it.
func (m *maker) around(c api.Lam, want *shape) api.Lam {
	v := m.fresh(1)
	switch m.r.Intn(4) {
	case 0:
		return c
	case 1:
		return seq(c, m.expr(want))
	case 2:
		return try(c, v, m.with(v, []*shape{m.caught()}, func() api.Lam { return m.expr(want) }))
	}
	return let(v, c, m.with(v, []*shape{want}, func() api.Lam { return m.expr(want) }))
}

// takenOut makes up a node that takes what is wanted out of something.
func (m *maker) takenOut(want *shape) api.Lam {
	switch m.r.Intn(5) {
	case 0:
		s := &shape{kind: isBlock, tag: int64(m.r.Intn(3)), parts: []*shape{m.some(1), want, m.some(1)}[m.r.Intn(2):]}
		i := slices.Index(s.parts, want)
		return of(api.LField, int64(i), m.expr(s))
	case 1:
		return of(api.LAt, 0, m.expr(&shape{kind: isArray, parts: []*shape{want}}), m.place())
	case 2:
		return op(api.OpDeref, m.expr(&shape{kind: isBlock, parts: []*shape{want}}))
	case 3:
		s := m.function(want)
		return m.applied(m.expr(s), s.parts[:len(s.parts)-1])
	}
	return m.guardedFor(want)
}

// guardedFor makes up an LTry that comes to what is wanted.
func (m *maker) guardedFor(want *shape) api.Lam {
	reach := m.reach
	m.reach = nil
	a := m.expr(want)
	if m.r.Intn(2) == 0 {
		a = seq(m.expr(m.some(1)), branch(m.expr(aNum), raise(m.exn()), a))
	}
	m.reach = reach
	v := m.fresh(1)
	return try(a, v, m.with(v, []*shape{m.caught()}, func() api.Lam { return m.expr(want) }))
}

// leaving makes up a node that comes to nothing.
func (m *maker) leaving(want *shape) api.Lam {
	switch k := m.r.Intn(6); {
	case len(m.reach) > 0 && k < 4:
		return m.exit(pick(m.r, m.reach...))
	case k == 4:
		return raise(m.exn())
	}
	return m.made(want)
}

func (m *maker) exn() api.Lam {
	if m.r.Intn(2) == 0 {
		return num(int64(m.r.Intn(6)))
	}
	return block(int64(m.r.Intn(2)), m.expr(aTxt))
}

// place makes up which element of an array is meant: as a rule there is such a one.
func (m *maker) place() api.Lam {
	if m.r.Intn(6) == 0 {
		return m.expr(aNum)
	}
	return num(int64(m.r.Intn(2)))
}

// made makes up a node that comes to what is wanted by its kind.
func (m *maker) made(want *shape) api.Lam {
	switch want.kind {
	case isNumber:
		return m.number()
	case isText:
		return m.text()
	case isBlock:
		var parts []api.Lam
		for _, s := range want.parts {
			parts = append(parts, m.expr(s))
		}
		if want.tag == 0 && len(parts) == 1 && m.r.Intn(2) == 0 {
			return op(api.OpRef, parts[0])
		}
		return block(want.tag, parts...)
	case isArray:
		if m.more > 0 && m.r.Intn(2) == 0 {
			return call(api.BMake, num(int64(m.r.Intn(4))), m.expr(want.parts[0]))
		}
		var parts []api.Lam
		for range m.r.Intn(4) {
			parts = append(parts, m.expr(want.parts[0]))
		}
		return block(0, parts...)
	}
	last := len(want.parts) - 1
	n := 1 + m.r.Intn(last)
	p := m.fresh(n)
	return fun(p, int64(n), m.inFunction(func() api.Lam {
		return m.with(p, want.parts[:n], func() api.Lam {
			if n < last {
				return m.expr(&shape{kind: isFunction, parts: want.parts[n:]})
			}
			return m.expr(want.parts[last])
		})
	}))
}

func (m *maker) number() api.Lam {
	small := num(int64(m.r.Intn(5)))
	if m.more < 0 {
		return small
	}
	s, h := m.some(1), m.held()
	switch m.r.Intn(16) {
	case 0, 1, 2:
		return op(int64(api.OpAdd+m.r.Intn(api.OpLess)), m.expr(aNum), m.expr(aNum))
	case 3:
		return op(pick(m.r, int64(api.OpNeg), api.OpNot), m.expr(aNum))
	case 4, 5:
		return op(int64(api.OpEq+m.r.Intn(6)), m.expr(h), m.expr(h))
	case 6:
		return call(api.BLength, m.expr(aTxt))
	case 7:
		return pick(m.r, call(api.BByte, op(api.OpCat, text("abc"), m.expr(aTxt)), m.expr(aNum)), call(api.BToInt, m.expr(aTxt)), call(api.BToInt, call(api.BToText, m.expr(aNum))))
	case 8:
		return call(api.BSize, m.expr(&shape{kind: isArray, parts: []*shape{s}}))
	case 9:
		return pick(m.r, call(api.BCompare, m.expr(h), m.expr(h)), call(api.BHash, m.expr(h)))
	case 10:
		return m.seen()
	case 11:
		return of(api.LPut, 0, m.expr(&shape{kind: isArray, parts: []*shape{s}}), m.place(), m.expr(s))
	case 12:
		return pick(m.r, op(api.OpAssign, m.expr(&shape{kind: isBlock, parts: []*shape{s}}), m.expr(s)), of(api.LSet, 1, m.expr(&shape{kind: isBlock, tag: 1, parts: []*shape{aNum, s}}), m.expr(s)))
	case 13:
		return m.while()
	case 14:
		v := m.fresh(1)
		return loop(int64(m.r.Intn(2)), v, m.expr(aNum), m.expr(aNum), m.with(v, []*shape{aNum}, func() api.Lam { return m.expr(m.some(1)) }))
	}
	return pick(m.r, small, num(mostInt), num(-1<<62), num(-1), call(api.BExit, small))
}

// while makes up a loop that goes round a few times, as a rule.
func (m *maker) while() api.Lam {
	v := m.fresh(1)
	count := &shape{kind: isBlock, parts: []*shape{aNum}}
	return let(v, op(api.OpRef, num(int64(m.r.Intn(4)))), m.with(v, []*shape{count}, func() api.Lam {
		return while(op(api.OpDeref, at(v)), seq(op(api.OpAssign, at(v), less(op(api.OpDeref, at(v)))), m.expr(m.some(1))))
	}))
}

func (m *maker) text() api.Lam {
	if m.more < 0 {
		return text(pick(m.r, "a", "bc"))
	}
	switch m.r.Intn(5) {
	case 0:
		return op(api.OpCat, m.expr(aTxt), m.expr(aTxt))
	case 1:
		return call(api.BToText, m.expr(aNum))
	case 2, 3:
		return call(api.BLine, num(0))
	}
	return text(pick(m.r, "a", "12", ""))
}
