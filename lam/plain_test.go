package lam_test

import (
	"strconv"
	"strings"

	"grapnel/api"
	"grapnel/lam"
	"grapnel/word"
)

// plain runs a program as one would write it down: what is within something is worked out by a call within a call, what is raised and where an exit leads is a panic, a function of many parameters is one of one that tells another one.
// Its values are int64, string, *cell and curried.
type plain struct {
	lines []string
	fuel  int64
	end   lam.Ending
	out   strings.Builder
	calls int64 // of built-in functions, that were made
}

type cell struct {
	tag    int64
	fields []any
}

type curried func(any) any

type raised struct{ v any }

// exited is an exit on its way to the nearest LCatch of that number that is under way.
type exited struct {
	n int64
	l []any
}

type stopped struct{}

// env is what variables are, by their numbers.
type env struct {
	n      int64
	v      any
	around *env
}

func (e *env) with(n int64, v any) *env { return &env{n, v, e} }

func (e *env) find(n int64) any {
	for e.n != n {
		e = e.around
	}
	return e.v
}

// plainly tells what comes of a program; false: it may not be.
func plainly(p api.Lams, lines []string, fuel int64) (lam.Ending, bool) {
	if !mayPlainly(p) {
		return lam.Ending{Kind: lam.Wrong}, false
	}
	x := &plain{lines: lines, fuel: fuel}
	return x.run(p), true
}

func (p *plain) run(of api.Lams) (end lam.Ending) {
	p.end.Kind = lam.Ended
	defer func() {
		switch x := recover().(type) {
		case nil, stopped:
		case raised:
			p.end.Kind = lam.Uncaught
			p.end.Exn = nameOf(of.Exns, x.v)
		default:
			panic(x)
		}
		p.end.Out = p.out.String()
		end = p.end
	}()
	p.eval(&of.Body, nil)
	return
}

func nameOf(l []api.Con, v any) string {
	for _, x := range l {
		if n, ok := v.(int64); ok && len(x.Of) == 0 && n == int64(x.N) {
			return x.Name
		}
		if b, ok := v.(*cell); ok && len(x.Of) > 0 && b.tag == int64(x.N) {
			return x.Name
		}
	}
	return ""
}

func (p *plain) stop(kind int) {
	p.end.Kind = kind
	panic(stopped{})
}

func (p *plain) burn() {
	if p.fuel <= 0 {
		p.stop(lam.OutOfFuel)
	}
	p.fuel--
}

// as tells a value as one of a kind, or that it is Wrong.
func as[T any](p *plain, v any) T {
	x, ok := v.(T)
	if !ok {
		p.stop(lam.Wrong)
	}
	return x
}

func truth(is bool) any {
	if is {
		return int64(1)
	}
	return int64(0)
}

// all works parts out from the right.
func (p *plain) all(l []api.Lam, e *env) []any {
	told := make([]any, len(l))
	for i := len(l) - 1; i >= 0; i-- {
		told[i] = p.eval(&l[i], e)
	}
	return told
}

func (p *plain) eval(c *api.Lam, e *env) any {
	p.burn()
	switch c.Kind {
	case api.LInt:
		return c.N
	case api.LText:
		return c.S
	case api.LVar:
		return e.find(int64(c.V))
	case api.LFun:
		return p.curry(c, e, 0)
	case api.LLet:
		return p.eval(&c.L[1], e.with(int64(c.V), p.eval(&c.L[0], e)))
	case api.LRec:
		for i := range c.N {
			e = e.with(int64(c.V)+i, nil)
		}
		x := e
		for i := c.N - 1; i >= 0; i-- {
			x.v = p.curry(&c.L[i], e, 0)
			x = x.around
		}
		return p.eval(&c.L[c.N], e)
	case api.LIf:
		if p.eval(&c.L[0], e) != any(int64(0)) {
			return p.eval(&c.L[1], e)
		}
		return p.eval(&c.L[2], e)
	case api.LSwitch:
		return p.eval(p.chosen(c, p.eval(&c.L[0], e)), e)
	case api.LCatch:
		return p.catch(c, e)
	case api.LTry:
		v, caught := p.try(&c.L[0], e)
		if caught {
			return p.eval(&c.L[1], e.with(int64(c.V), v))
		}
		return v
	case api.LSeq:
		p.eval(&c.L[0], e)
		return p.eval(&c.L[1], e)
	case api.LWhile:
		for p.eval(&c.L[0], e) != any(int64(0)) {
			p.eval(&c.L[1], e)
		}
		return int64(0)
	case api.LFor:
		return p.loop(c, e)
	}
	return p.done(c, p.all(c.L, e))
}

func (p *plain) chosen(c *api.Lam, v any) *api.Lam {
	part := 1
	for _, n := range c.Ns {
		if v == any(n) {
			return &c.L[part]
		}
		part++
	}
	b, ok := v.(*cell)
	for _, n := range c.Ts {
		if ok && b.tag == n {
			return &c.L[part]
		}
		part++
	}
	return &c.L[part]
}

func (p *plain) curry(c *api.Lam, e *env, known int64) any {
	return curried(func(v any) any {
		e := e.with(int64(c.V)+known, v)
		if known+1 == c.N {
			return p.eval(&c.L[0], e)
		}
		return p.curry(c, e, known+1)
	})
}

// try tells what a part comes to, or what it raises, and whether it does.
func (p *plain) try(c *api.Lam, e *env) (v any, caught bool) {
	defer func() {
		if x := recover(); x != nil {
			r, ok := x.(raised)
			if !ok {
				panic(x)
			}
			v, caught = r.v, true
		}
	}()
	return p.eval(c, e), false
}

func (p *plain) catch(c *api.Lam, e *env) any {
	v, l, left := p.first(c, e)
	if !left {
		return v
	}
	for i, n := range c.Ns {
		e = e.with(n, l[i])
	}
	return p.eval(&c.L[1], e)
}

// first tells what an LCatch's first part comes to, or with what it was left for the second one.
func (p *plain) first(c *api.Lam, e *env) (v any, l []any, left bool) {
	defer func() {
		if x := recover(); x != nil {
			to, ok := x.(exited)
			if !ok || to.n != c.N {
				panic(x)
			}
			l, left = to.l, true
		}
	}()
	return p.eval(&c.L[0], e), nil, false
}

func (p *plain) loop(c *api.Lam, e *env) any {
	bounds := p.all(c.L[:2], e)
	from, to := as[int64](p, bounds[0]), as[int64](p, bounds[1])
	for i := from; c.N == 1 && i <= to; i++ {
		p.eval(&c.L[2], e.with(int64(c.V), i))
	}
	for i := from; c.N == 0 && i >= to; i-- {
		p.eval(&c.L[2], e.with(int64(c.V), i))
	}
	return int64(0)
}

// done tells what comes of parts that were worked out.
func (p *plain) done(c *api.Lam, l []any) any {
	switch c.Kind {
	case api.LApp:
		v := l[0]
		for _, a := range l[1:] {
			v = as[curried](p, v)(a)
		}
		return v
	case api.LExit:
		panic(exited{c.N, l})
	case api.LBlock:
		return &cell{c.N, l}
	case api.LField:
		return *p.field(l[0], c.N)
	case api.LSet:
		*p.field(l[0], c.N) = l[1]
		return int64(0)
	case api.LAt:
		return *p.element(l)
	case api.LPut:
		*p.element(l) = l[2]
		return int64(0)
	case api.LRaise:
		panic(raised{l[0]})
	case api.LCall:
		return p.call(c.N, l)
	}
	return p.operation(c.N, l)
}

func (p *plain) field(v any, n int64) *any {
	b := as[*cell](p, v)
	if n >= int64(len(b.fields)) {
		p.stop(lam.Wrong)
	}
	return &b.fields[n]
}

func (p *plain) element(l []any) *any {
	b, i := as[*cell](p, l[0]), as[int64](p, l[1])
	if i < 0 || i >= int64(len(b.fields)) {
		panic(raised{int64(2)})
	}
	return &b.fields[i]
}

func cutTo63(n int64) any { return n << 1 >> 1 }

func (p *plain) operation(op int64, l []any) any {
	switch op {
	case api.OpNeg:
		return cutTo63(-as[int64](p, l[0]))
	case api.OpNot:
		return truth(as[int64](p, l[0]) == 0)
	case api.OpEq:
		return truth(p.compare(l[0], l[1]) == 0)
	case api.OpNe:
		return truth(p.compare(l[0], l[1]) != 0)
	case api.OpLt:
		return truth(p.compare(l[0], l[1]) < 0)
	case api.OpGt:
		return truth(p.compare(l[0], l[1]) > 0)
	case api.OpLe:
		return truth(p.compare(l[0], l[1]) <= 0)
	case api.OpGe:
		return truth(p.compare(l[0], l[1]) >= 0)
	case api.OpRef:
		return &cell{0, l}
	case api.OpDeref:
		return *p.field(l[0], 0)
	case api.OpAssign:
		*p.field(l[0], 0) = l[1]
		return int64(0)
	case api.OpCat:
		s := as[string](p, l[0]) + as[string](p, l[1])
		if len(s) > 4096 {
			panic(raised{int64(2)})
		}
		return s
	}
	return p.reckon(op, as[int64](p, l[0]), as[int64](p, l[1]))
}

func (p *plain) reckon(op, a, b int64) any {
	switch op {
	case api.OpAdd:
		return cutTo63(a + b)
	case api.OpSub:
		return cutTo63(a - b)
	case api.OpMul:
		return cutTo63(a * b)
	case api.OpAnd:
		return a & b
	case api.OpOr:
		return a | b
	case api.OpXor:
		return a ^ b
	case api.OpLess:
		return truth(a < b)
	case api.OpShl:
		return map[bool]any{true: cutTo63(a << (uint64(b) % 64)), false: int64(0)}[b >= 0 && b < 63]
	case api.OpShr:
		return map[bool]any{true: a >> (uint64(b) % 64), false: a >> 63}[b >= 0 && b < 63]
	}
	if b == 0 {
		panic(raised{int64(1)})
	}
	if op == api.OpDiv {
		return cutTo63(a / b)
	}
	return cutTo63(a % b)
}

// compare has all pairs on one list, as chapter 6 has it.
func (p *plain) compare(v, w any) int {
	type pair struct{ v, w any }
	work := []pair{{v, w}}
	for len(work) > 0 {
		p.burn()
		x := work[len(work)-1]
		work = work[:len(work)-1]
		_, f := x.v.(curried)
		_, g := x.w.(curried)
		if f || g {
			panic(raised{int64(2)})
		}
		a, b := keys(x.v), keys(x.w)
		for i := range a {
			if a[i] != b[i] {
				return map[bool]int{true: -1, false: 1}[a[i] < b[i]]
			}
		}
		s, text := x.v.(string)
		if text && s != x.w.(string) {
			return strings.Compare(s, x.w.(string))
		}
		if c, ok := x.v.(*cell); ok && c != x.w.(*cell) {
			for i := len(c.fields) - 1; i >= 0; i-- {
				work = append(work, pair{c.fields[i], x.w.(*cell).fields[i]})
			}
		}
	}
	return 0
}

// keys tells what of a value is asked one by one: its tag (a number's is below all), its number or its size.
func keys(v any) [2]int64 {
	switch x := v.(type) {
	case int64:
		return [2]int64{-1, x}
	case *cell:
		return [2]int64{x.tag, int64(len(x.fields))}
	}
	return [2]int64{api.TagText, 0}
}

func (p *plain) call(n int64, l []any) any {
	p.calls++
	switch n {
	case api.BPrintInt:
		p.out.WriteString(strconv.FormatInt(as[int64](p, l[0]), 10))
		return int64(0)
	case api.BPrint:
		p.out.WriteString(as[string](p, l[0]))
		return int64(0)
	case api.BLine:
		if p.end.Read == len(p.lines) {
			panic(raised{int64(3)})
		}
		p.end.Read++
		s := p.lines[p.end.Read-1]
		return s[:min(4096, len(s))]
	case api.BExit:
		p.end.Code = int(byte(as[int64](p, l[0])))
		p.stop(lam.Ended)
	case api.BToText:
		return strconv.FormatInt(as[int64](p, l[0]), 10)
	case api.BToInt:
		w, e := word.Parse(as[string](p, l[0]))
		if e != api.OK {
			panic(raised{&cell{0, []any{"int_of_string"}}})
		}
		return word.Num(w)
	case api.BLength:
		return int64(len(as[string](p, l[0])))
	case api.BByte:
		s, i := as[string](p, l[0]), as[int64](p, l[1])
		if i < 0 || i >= int64(len(s)) {
			panic(raised{int64(2)})
		}
		return int64(s[i])
	case api.BMake:
		return p.make(as[int64](p, l[0]), l[1])
	case api.BSize:
		return int64(len(as[*cell](p, l[0]).fields))
	case api.BCompare:
		return int64(p.compare(l[0], l[1]))
	}
	return p.hash(l[0])
}

func (p *plain) make(n int64, v any) any {
	if n < 0 || n > 4096 {
		panic(raised{int64(2)})
	}
	b := &cell{}
	for range n {
		b.fields = append(b.fields, v)
	}
	return b
}

func (p *plain) hash(v any) any {
	h, queue := int64(7), []any{v}
	add := func(n int64) { h = cutTo63(31*h + n).(int64) }
	for taken := 0; len(queue) > 0 && taken < 24; taken++ {
		v, queue = queue[0], queue[1:]
		switch x := v.(type) {
		case int64:
			add(x)
		case string:
			add(3)
			for i := 0; i < len(x) && i < 64; i++ {
				add(int64(x[i]))
			}
		case *cell:
			add(5*x.tag + int64(len(x.fields)))
			queue = append(queue, x.fields...)
		default:
			panic(raised{int64(2)})
		}
	}
	return h & (1<<30 - 1)
}
