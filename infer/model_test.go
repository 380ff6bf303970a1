package infer_test

import (
	"maps"
	"slices"
	"strings"

	"grapnel/api"
	"grapnel/types"
)

// The model finds types another way: what is known is a plain map that is looked up in each node, rules are texts, and a let's variable has no general type at all: where it stands, its value's type is found anew.

// fault is what the model finds wrong.
type fault struct {
	e  api.Errno
	at int
}

// model finds types.
type model struct {
	d        api.Decls
	known    map[int]api.Type
	last     int
	steps    int
	measured bool // types may be too great: not asked of what is found anew
}

// env tells what finds a variable's type.
type env map[int]func() api.Type

func (v env) with(n int, find func() api.Type) env {
	w := maps.Clone(v)
	w[n] = find
	return w
}

func always(t api.Type) func() api.Type { return func() api.Type { return t } }

// tooLong is what the model gives up with.
type tooLong struct{}

// modelled tells what the model tells of a core; false: that would take too long.
func modelled(d api.Decls, c api.Core) (told string, f fault, ok bool) {
	m := &model{d: d, known: map[int]api.Type{}, measured: true}
	defer func() {
		switch x := recover().(type) {
		case nil:
		case fault:
			told, f, ok = "", x, true
		case tooLong:
			told, f, ok = "", fault{}, false
		default:
			panic(x)
		}
	}()
	t := m.of(c, env{})
	return types.Text(types.Canon(m.resolved(t))), fault{}, true
}

func (m *model) fresh() api.Type {
	m.last++
	return api.Type{V: m.last}
}

func (m *model) resolved(a api.Type) api.Type {
	m.steps++
	if m.steps > 300000 {
		panic(tooLong{})
	}
	if is, ok := m.known[a.V]; ok {
		return m.resolved(is)
	}
	r := api.Type{V: a.V, S: a.S}
	for _, p := range a.L {
		r.L = append(r.L, m.resolved(p))
	}
	return r
}

func nodes(a api.Type) []api.Type {
	all := []api.Type{a}
	for _, p := range a.L {
		all = append(all, nodes(p)...)
	}
	return all
}

func (m *model) great(a api.Type) bool {
	return m.measured && len(nodes(m.resolved(a))) > api.MaxType
}

// is makes two types one at a place.
func (m *model) is(a, b api.Type, at int) {
	if m.great(a) || m.great(b) {
		panic(fault{api.ErrMany, at})
	}
	m.one(a, b, at)
}

func (m *model) one(a, b api.Type, at int) {
	a, b = m.resolved(a), m.resolved(b)
	if b.V > 0 && a.V == 0 {
		a, b = b, a
	}
	if a.V > 0 {
		if a.V == b.V {
			return
		}
		if slices.ContainsFunc(nodes(b), func(x api.Type) bool { return x.V == a.V }) {
			panic(fault{api.ErrOccurs, at})
		}
		m.known[a.V] = b
		return
	}
	if a.S != b.S || len(a.L) != len(b.L) {
		panic(fault{api.ErrType, at})
	}
	for i := range a.L {
		m.one(a.L[i], b.L[i], at)
	}
}

// read tells the type that a text writes as types.Text does, its variables being letters, new ones for each reading.
func (m *model) read(text string, letters map[string]api.Type) api.Type {
	words := strings.Fields(strings.NewReplacer("(", " ( ", ")", " ) ").Replace(text))
	t, _ := m.readWords(words, letters)
	return t
}

func (m *model) readWords(words []string, letters map[string]api.Type) (api.Type, []string) {
	if words[0] != "(" {
		return m.readName(words[0], letters), words[1:]
	}
	var t api.Type
	p, words := m.readWords(words[1:], letters)
	t.L = append(t.L, p)
	for words[0] != ")" {
		t.S = words[0]
		words = words[1:]
		if words[0] != ")" {
			p, words = m.readWords(words, letters)
			t.L = append(t.L, p)
		}
	}
	return t, words[1:]
}

func (m *model) readName(word string, letters map[string]api.Type) api.Type {
	if word[0] != '\'' {
		return api.Type{S: word}
	}
	if letters[word].V == 0 {
		letters[word] = m.fresh()
	}
	return letters[word]
}

// follow goes by a rule that is a text: what the parts are, then the whole, parted by commas.
func (m *model) follow(rule string, c api.Core, find func(api.Core) api.Type) api.Type {
	letters := map[string]api.Type{}
	texts := strings.Split(rule, ",")
	for i, text := range texts[:len(texts)-1] {
		m.is(find(c.L[i]), m.read(text, letters), c.L[i].At)
	}
	return m.read(texts[len(texts)-1], letters)
}

// of tells a node's type.
func (m *model) of(c api.Core, v env) api.Type {
	find := func(p api.Core) api.Type { return m.of(p, v) }
	t, ok := m.shared(c, find)
	if !ok {
		t = m.expr(c, v, find)
	}
	if m.great(t) {
		panic(fault{api.ErrMany, c.At})
	}
	return t
}

// shared tells the type of what may be a pattern or an expression.
func (m *model) shared(c api.Core, find func(api.Core) api.Type) (api.Type, bool) {
	switch c.Kind {
	case api.KInt, api.QInt:
		return api.Type{S: "int"}, true
	case api.KText, api.QText:
		return api.Type{S: "string"}, true
	case api.KTuple, api.QTuple:
		t := api.Type{S: "*"}
		for _, p := range c.L {
			t.L = append(t.L, find(p))
		}
		return t, true
	case api.KCon, api.QCon:
		return m.con(c, find), true
	case api.KRecord, api.QRecord:
		rule := ""
		for _, l := range m.sort(c.S).Labels {
			rule += types.Text(l.T) + ","
		}
		return m.follow(rule+c.S, c, find), true
	}
	return api.Type{}, false
}

func (m *model) sort(name string) api.Sort {
	return m.d.Sorts[slices.IndexFunc(m.d.Sorts, func(s api.Sort) bool { return s.Name == name })]
}

func (m *model) con(c api.Core, find func(api.Core) api.Type) api.Type {
	switch c.S {
	case "()":
		return m.follow("unit", c, find)
	case "true", "false":
		return m.follow("bool", c, find)
	case "[]":
		return m.follow("('a list)", c, find)
	case "::":
		return m.follow("'a,('a list),('a list)", c, find)
	}
	rule := ""
	for _, s := range append(m.d.Sorts, api.Sort{Name: "exn", Cons: m.d.Exns}) {
		for _, k := range s.Cons {
			if k.Name != c.S {
				continue
			}
			rule = s.Name
			if len(k.Of) > 0 {
				rule = types.Text(k.Of[0]) + "," + rule
			}
		}
	}
	return m.follow(rule, c, find)
}

// label tells the texts of a label's type, and of its record's.
func (m *model) label(name string) (string, string) {
	for _, s := range m.d.Sorts {
		for _, l := range s.Labels {
			if l.Name == name {
				return types.Text(l.T), s.Name
			}
		}
	}
	panic("no label " + name)
}

func opRule(op int64) string {
	switch {
	case op <= api.OpShr:
		return "int,int,int"
	case op == api.OpLess:
		return "int,int,bool"
	case op >= api.OpEq && op <= api.OpGe:
		return "'a,'a,bool"
	}
	return map[int64]string{api.OpNeg: "int,int", api.OpNot: "bool,bool", api.OpCat: "string,string,string", api.OpRef: "'a,('a ref)", api.OpDeref: "('a ref),'a", api.OpAssign: "('a ref),'a,unit"}[op]
}

func builtinRule(n int64) string {
	return strings.Split("(int -> unit),(string -> unit),(unit -> string),(int -> 'a),(int -> string),(string -> int),(string -> int),"+
		"(string -> (int -> int)),(int -> ('a -> ('a array))),(('a array) -> int),('a -> ('a -> int)),('a -> int)", ",")[n-1]
}

// expr tells an expression's type.
func (m *model) expr(c api.Core, v env, find func(api.Core) api.Type) api.Type {
	switch c.Kind {
	case api.KVar:
		return v[c.V]()
	case api.KBuiltin:
		return m.follow(builtinRule(c.N), c, find)
	case api.KOp:
		return m.follow(opRule(c.N), c, find)
	case api.KArray:
		return m.follow(strings.Repeat("'a,", len(c.L))+"('a array)", c, find)
	case api.KGet:
		t, sort := m.label(c.S)
		return m.follow(sort+","+t, c, find)
	case api.KSet:
		t, sort := m.label(c.S)
		return m.follow(sort+","+t+",unit", c, find)
	case api.KAt:
		return m.follow("('a array),int,'a", c, find)
	case api.KPut:
		return m.follow("('a array),int,'a,unit", c, find)
	case api.KRaise:
		return m.follow("exn,'a", c, find)
	case api.KIf:
		return m.follow("bool,'a,'a,'a", c, find)
	case api.KWhile:
		return m.follow("bool,'a,unit", c, find)
	case api.KSeq:
		return m.follow("'a,'b,'b", c, find)
	case api.KFor:
		m.follow("int,int,unit", c, find)
		m.of(c.L[2], v.with(c.V, always(api.Type{S: "int"})))
		return api.Type{S: "unit"}
	case api.KApp:
		return m.app(c, find)
	case api.KFun:
		return m.fun(c, v)
	case api.KMatch, api.KTry:
		return m.match(c, v)
	case api.KLet:
		return m.let(c, v)
	}
	return m.rec(c, v)
}

func (m *model) app(c api.Core, find func(api.Core) api.Type) api.Type {
	t := find(c.L[0])
	for _, p := range c.L[1:] {
		a, r := find(p), m.fresh()
		m.is(t, api.Type{S: "->", L: []api.Type{a, r}}, p.At)
		t = r
	}
	return t
}

func (m *model) fun(c api.Core, v env) api.Type {
	if c.N == 0 {
		return m.of(c.L[0], v)
	}
	a := m.fresh()
	rest := c
	rest.N, rest.V = c.N-1, c.V+1
	return api.Type{S: "->", L: []api.Type{a, m.fun(rest, v.with(c.V, always(a)))}}
}

func (m *model) match(c api.Core, v env) api.Type {
	t := m.of(c.L[0], v)
	r := m.fresh()
	if c.Kind == api.KTry {
		t, r = api.Type{S: "exn"}, t
	}
	for _, k := range c.L[1:] {
		bound := map[int]api.Type{}
		p := k.L[0]
		m.is(m.pattern(p, bound), t, p.At)
		w := maps.Clone(v)
		for n, is := range bound {
			w[n] = always(is)
		}
		if len(k.L) == 3 {
			m.is(m.of(k.L[1], w), api.Type{S: "bool"}, k.L[1].At)
		}
		body := k.L[len(k.L)-1]
		m.is(m.of(body, w), r, body.At)
	}
	return r
}

func (m *model) pattern(c api.Core, bound map[int]api.Type) api.Type {
	find := func(p api.Core) api.Type { return m.pattern(p, bound) }
	t, ok := m.shared(c, find)
	if !ok {
		if _, has := bound[c.V]; !has && (c.Kind == api.QVar || c.Kind == api.QAs) {
			bound[c.V] = m.fresh()
		}
		switch c.Kind {
		case api.QAny:
			t = m.fresh()
		case api.QVar:
			t = bound[c.V]
		case api.QAs:
			t = bound[c.V]
			m.is(find(c.L[0]), t, c.L[0].At)
		case api.QOr:
			t = m.follow("'a,'a,'a", c, find)
		}
	}
	if m.great(t) {
		panic(fault{api.ErrMany, c.At})
	}
	return t
}

// unmeasured finds something without asking whether it is too great.
func (m *model) unmeasured(find func() api.Type) api.Type {
	around := m.measured
	m.measured = false
	t := find()
	m.measured = around
	return t
}

func plainly(c api.Core) bool {
	if c.Kind == api.KCon || c.Kind == api.KTuple {
		return !slices.ContainsFunc(c.L, func(p api.Core) bool { return !plainly(p) })
	}
	return slices.Contains([]int{api.KInt, api.KText, api.KVar, api.KBuiltin, api.KFun}, c.Kind)
}

func (m *model) let(c api.Core, v env) api.Type {
	t := m.of(c.L[0], v)
	find := always(t)
	if plainly(c.L[0]) {
		find = func() api.Type { return m.unmeasured(func() api.Type { return m.of(c.L[0], v) }) }
	}
	return m.of(c.L[1], v.with(c.V, find))
}

func (m *model) rec(c api.Core, v env) api.Type {
	all := func() []api.Type {
		w := maps.Clone(v)
		var told []api.Type
		for i := range int(c.N) {
			told = append(told, m.fresh())
			w[c.V+i] = always(told[i])
		}
		for i, t := range told {
			m.is(m.of(c.L[i], w), t, c.L[i].At)
		}
		return told
	}
	all()
	w := maps.Clone(v)
	for i := range int(c.N) {
		w[c.V+i] = func() api.Type { return m.unmeasured(func() api.Type { return all()[i] }) }
	}
	return m.of(c.L[c.N], w)
}
