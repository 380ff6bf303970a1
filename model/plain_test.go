package model_test

import (
	"strconv"
	"strings"

	"grapnel/api"
	"grapnel/model"
	"grapnel/word"
)

// plain runs a core as one would write it down: what is within something is worked out by a call within a call, what is raised is a panic, a function of many parameters is one of one that tells another one.
// Its values are int64, string, *cell and curried.
type plain struct {
	lines []string
	fuel  int64
	end   model.Ending
	out   strings.Builder
}

type cell struct {
	tag    int64
	fields []any
}

type curried func(any) any

type raised struct{ v any }

type stopped struct{}

// env is what variables are, by their numbers; it isn't changed behind its making.
type env []any

func (e env) with(n int, v any) env {
	more := make(env, max(len(e), n+1))
	copy(more, e)
	more[n] = v
	return more
}

// plainly tells what comes of a core.
func plainly(d api.Decls, c api.Core, lines []string, fuel int64) (end model.Ending) {
	p := &plain{lines: lines, fuel: fuel, end: model.Ending{Kind: model.Ended}}
	defer func() {
		switch x := recover().(type) {
		case nil, stopped:
		case raised:
			p.end.Kind = model.Uncaught
			p.end.Exn = nameOf(d, x.v)
		default:
			panic(x)
		}
		p.end.Out = p.out.String()
		end = p.end
	}()
	p.eval(&c, nil)
	return
}

func nameOf(d api.Decls, v any) string {
	for _, x := range d.Exns {
		if n, ok := v.(int64); ok && len(x.Of) == 0 && n == int64(x.N) {
			return x.Name
		}
		if b, ok := v.(*cell); ok && len(x.Of) > 0 && b.tag == int64(x.N) {
			return x.Name
		}
	}
	return ""
}

func (p *plain) stop(kind int) {
	p.end.Kind = kind
	panic(stopped{})
}

func (p *plain) burn() {
	if p.fuel <= 0 {
		p.stop(model.OutOfFuel)
	}
	p.fuel--
}

// as tells a value as one of a kind, or that it is Wrong.
func as[T any](p *plain, v any) T {
	x, ok := v.(T)
	if !ok {
		p.stop(model.Wrong)
	}
	return x
}

func truth(is bool) any {
	if is {
		return int64(1)
	}
	return int64(0)
}

// all works parts out from the right.
func (p *plain) all(l []api.Core, e env) []any {
	told := make([]any, len(l))
	for i := len(l) - 1; i >= 0; i-- {
		told[i] = p.eval(&l[i], e)
	}
	return told
}

func (p *plain) eval(c *api.Core, e env) any {
	p.burn()
	switch c.Kind {
	case api.KInt:
		return c.N
	case api.KText:
		return c.S
	case api.KVar:
		return e[c.V]
	case api.KBuiltin:
		return p.builtIn(c.N)
	case api.KFun:
		return p.curry(c, e, 0)
	case api.KLet:
		return p.eval(&c.L[1], e.with(c.V, p.eval(&c.L[0], e)))
	case api.KRec:
		e = e.with(c.V+int(c.N), nil)
		for i := range int(c.N) {
			e[c.V+i] = p.curry(&c.L[i], e, 0)
		}
		return p.eval(&c.L[c.N], e)
	case api.KIf:
		if as[int64](p, p.eval(&c.L[0], e)) != 0 {
			return p.eval(&c.L[1], e)
		}
		return p.eval(&c.L[2], e)
	case api.KMatch:
		v := p.eval(&c.L[0], e)
		return p.cases(c, e, v, int64(0))
	case api.KTry:
		v, caught := p.try(&c.L[0], e)
		if caught {
			return p.cases(c, e, v, v)
		}
		return v
	case api.KSeq:
		p.eval(&c.L[0], e)
		return p.eval(&c.L[1], e)
	case api.KWhile:
		for as[int64](p, p.eval(&c.L[0], e)) != 0 {
			p.eval(&c.L[1], e)
		}
		return int64(0)
	case api.KFor:
		return p.loop(c, e)
	case api.KApp:
		l := p.all(c.L, e)
		v := l[0]
		for _, a := range l[1:] {
			v = as[curried](p, v)(a)
		}
		return v
	}
	return p.done(c, p.all(c.L, e))
}

func (p *plain) curry(c *api.Core, e env, known int) any {
	return curried(func(v any) any {
		e := e.with(c.V+known, v)
		if int64(known+1) == c.N {
			return p.eval(&c.L[0], e)
		}
		return p.curry(c, e, known+1)
	})
}

// try tells what a part comes to, or what it raises, and whether it does.
func (p *plain) try(c *api.Core, e env) (v any, caught bool) {
	defer func() {
		if x := recover(); x != nil {
			r, ok := x.(raised)
			if !ok {
				panic(x)
			}
			v, caught = r.v, true
		}
	}()
	return p.eval(c, e), false
}

func (p *plain) cases(c *api.Core, e env, v, otherwise any) any {
	for _, arm := range c.L[1:] {
		inner := append(env{}, e...)
		if !meets(&arm.L[0], v, &inner) {
			continue
		}
		if len(arm.L) == 3 && p.eval(&arm.L[1], inner) != any(int64(1)) {
			continue
		}
		return p.eval(&arm.L[len(arm.L)-1], inner)
	}
	panic(raised{otherwise})
}

func meets(q *api.Core, v any, e *env) bool {
	b, block := v.(*cell)
	switch q.Kind {
	case api.QAny:
		return true
	case api.QVar:
		*e = e.with(q.V, v)
		return true
	case api.QAs:
		*e = e.with(q.V, v)
		return meets(&q.L[0], v, e)
	case api.QInt:
		return v == any(q.N)
	case api.QText:
		return v == any(q.S)
	case api.QOr:
		return meets(&q.L[0], v, e) || meets(&q.L[1], v, e)
	case api.QCon:
		if len(q.L) == 0 {
			return v == any(q.N)
		}
	}
	if !block || b.tag != q.N || len(b.fields) != len(q.L) {
		return false
	}
	for i := range q.L {
		if !meets(&q.L[i], b.fields[i], e) {
			return false
		}
	}
	return true
}

func (p *plain) loop(c *api.Core, e env) any {
	bounds := p.all(c.L[:2], e)
	from, to := as[int64](p, bounds[0]), as[int64](p, bounds[1])
	for i := from; c.N == 1 && i <= to; i++ {
		p.eval(&c.L[2], e.with(c.V, i))
	}
	for i := from; c.N == 0 && i >= to; i-- {
		p.eval(&c.L[2], e.with(c.V, i))
	}
	return int64(0)
}

// done tells what comes of parts that were worked out.
func (p *plain) done(c *api.Core, l []any) any {
	switch c.Kind {
	case api.KCon:
		if len(l) == 0 {
			return c.N
		}
		return &cell{c.N, l}
	case api.KTuple, api.KArray, api.KRecord:
		return &cell{0, l}
	case api.KGet:
		return *p.field(l[0], c.N)
	case api.KSet:
		*p.field(l[0], c.N) = l[1]
		return int64(0)
	case api.KAt:
		return *p.element(l)
	case api.KPut:
		*p.element(l) = l[2]
		return int64(0)
	case api.KRaise:
		panic(raised{l[0]})
	}
	return p.operation(c.N, l)
}

func (p *plain) field(v any, n int64) *any {
	b := as[*cell](p, v)
	if n >= int64(len(b.fields)) {
		p.stop(model.Wrong)
	}
	return &b.fields[n]
}

func (p *plain) element(l []any) *any {
	b, i := as[*cell](p, l[0]), as[int64](p, l[1])
	if i < 0 || i >= int64(len(b.fields)) {
		panic(raised{int64(2)})
	}
	return &b.fields[i]
}

func cutTo63(n int64) any { return n << 1 >> 1 }

func (p *plain) operation(op int64, l []any) any {
	switch op {
	case api.OpNeg:
		return cutTo63(-as[int64](p, l[0]))
	case api.OpNot:
		return truth(as[int64](p, l[0]) == 0)
	case api.OpEq:
		return truth(p.compare(l[0], l[1]) == 0)
	case api.OpNe:
		return truth(p.compare(l[0], l[1]) != 0)
	case api.OpLt:
		return truth(p.compare(l[0], l[1]) < 0)
	case api.OpGt:
		return truth(p.compare(l[0], l[1]) > 0)
	case api.OpLe:
		return truth(p.compare(l[0], l[1]) <= 0)
	case api.OpGe:
		return truth(p.compare(l[0], l[1]) >= 0)
	case api.OpRef:
		return &cell{0, l}
	case api.OpDeref:
		return *p.field(l[0], 0)
	case api.OpAssign:
		*p.field(l[0], 0) = l[1]
		return int64(0)
	case api.OpCat:
		s := as[string](p, l[0]) + as[string](p, l[1])
		if len(s) > 4096 {
			panic(raised{int64(2)})
		}
		return s
	}
	return p.reckon(op, as[int64](p, l[0]), as[int64](p, l[1]))
}

func (p *plain) reckon(op, a, b int64) any {
	switch op {
	case api.OpAdd:
		return cutTo63(a + b)
	case api.OpSub:
		return cutTo63(a - b)
	case api.OpMul:
		return cutTo63(a * b)
	}
	if b == 0 {
		panic(raised{int64(1)})
	}
	if op == api.OpDiv {
		return cutTo63(a / b)
	}
	return cutTo63(a % b)
}

// compare has all pairs on one list, as chapter 6 has it.
func (p *plain) compare(v, w any) int {
	type pair struct{ v, w any }
	work := []pair{{v, w}}
	for len(work) > 0 {
		p.burn()
		x := work[len(work)-1]
		work = work[:len(work)-1]
		_, f := x.v.(curried)
		_, g := x.w.(curried)
		if f || g {
			panic(raised{int64(2)})
		}
		a, b := keys(x.v), keys(x.w)
		for i := range a {
			if a[i] != b[i] {
				return map[bool]int{true: -1, false: 1}[a[i] < b[i]]
			}
		}
		s, text := x.v.(string)
		if text && s != x.w.(string) {
			return strings.Compare(s, x.w.(string))
		}
		if c, ok := x.v.(*cell); ok && c != x.w.(*cell) {
			for i := len(c.fields) - 1; i >= 0; i-- {
				work = append(work, pair{c.fields[i], x.w.(*cell).fields[i]})
			}
		}
	}
	return 0
}

// keys tells what of a value is asked one by one: its tag (a number's is below all), its number or its size.
func keys(v any) [2]int64 {
	switch x := v.(type) {
	case int64:
		return [2]int64{-1, x}
	case *cell:
		return [2]int64{x.tag, int64(len(x.fields))}
	}
	return [2]int64{api.TagText, 0}
}

func (p *plain) builtIn(n int64) any {
	two := func(f func(v, w any) any) any {
		return curried(func(v any) any { return curried(func(w any) any { return f(v, w) }) })
	}
	switch n {
	case api.BByte:
		return two(func(v, w any) any {
			s, i := as[string](p, v), as[int64](p, w)
			if i < 0 || i >= int64(len(s)) {
				panic(raised{int64(2)})
			}
			return int64(s[i])
		})
	case api.BMake:
		return two(func(v, w any) any {
			n := as[int64](p, v)
			if n < 0 || n > 4096 {
				panic(raised{int64(2)})
			}
			b := &cell{}
			for range n {
				b.fields = append(b.fields, w)
			}
			return b
		})
	case api.BCompare:
		return two(func(v, w any) any { return int64(p.compare(v, w)) })
	}
	return curried(func(v any) any { return p.call(n, v) })
}

func (p *plain) call(n int64, v any) any {
	switch n {
	case api.BPrintInt:
		p.out.WriteString(strconv.FormatInt(as[int64](p, v), 10))
		return int64(0)
	case api.BPrint:
		p.out.WriteString(as[string](p, v))
		return int64(0)
	case api.BLine:
		if p.end.Read == len(p.lines) {
			panic(raised{int64(3)})
		}
		p.end.Read++
		s := p.lines[p.end.Read-1]
		return s[:min(4096, len(s))]
	case api.BExit:
		p.end.Code = int(byte(as[int64](p, v)))
		p.stop(model.Ended)
	case api.BToText:
		return strconv.FormatInt(as[int64](p, v), 10)
	case api.BToInt:
		w, e := word.Parse(as[string](p, v))
		if e != api.OK {
			panic(raised{&cell{0, []any{"int_of_string"}}})
		}
		return word.Num(w)
	case api.BLength:
		return int64(len(as[string](p, v)))
	case api.BSize:
		return int64(len(as[*cell](p, v).fields))
	}
	return p.hash(v)
}

func (p *plain) hash(v any) any {
	h, queue := int64(7), []any{v}
	add := func(n int64) { h = cutTo63(31*h + n).(int64) }
	for taken := 0; len(queue) > 0 && taken < 24; taken++ {
		v, queue = queue[0], queue[1:]
		switch x := v.(type) {
		case int64:
			add(x)
		case string:
			add(3)
			for i := 0; i < len(x) && i < 64; i++ {
				add(int64(x[i]))
			}
		case *cell:
			add(5*x.tag + int64(len(x.fields)))
			queue = append(queue, x.fields...)
		default:
			panic(raised{int64(2)})
		}
	}
	return h & (1<<30 - 1)
}
