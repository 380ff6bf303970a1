package core_test

import (
	"math/rand"
	"slices"
	"strconv"
	"strings"
)

// maker makes up sources that parse: mostly such as have a core, but wild of a thousand choices are made without heed.
type maker struct {
	r      *rand.Rand
	wild   int
	more   int // how many parts there may still be, about
	types  []string
	plain  []string // constructors without anything
	with   []string // constructors of something
	labels [][]string
	scope  []string
}

func newMaker(seed int64, wild, more int) *maker {
	return &maker{r: rand.New(rand.NewSource(seed)), wild: wild, more: more, types: strings.Fields("int bool unit string exn"),
		plain: strings.Fields("Match_failure Division_by_zero Invalid_argument End_of_file Not_found"), with: []string{"Failure"}}
}

func (m *maker) heedless() bool { return m.r.Intn(1000) < m.wild }

func (m *maker) pick(all []string) string { return all[m.r.Intn(len(all))] }

// names that variables have: some of them hide what is built in.
func pool() []string { return strings.Fields("a b c d x y ref hash exit") }

func (m *maker) source() string {
	var items []string
	for range 1 + m.r.Intn(7) {
		items = append(items, m.item())
		if m.r.Intn(5) == 0 {
			items = append(items, ";;")
		}
	}
	return strings.Join(items, " ")
}

func (m *maker) item() string {
	switch m.r.Intn(8) {
	case 0:
		return m.variant()
	case 1:
		return m.record()
	case 2:
		of := m.of()
		name := m.newCon()
		m.addCon(name, of != "")
		return "exception " + name + of
	}
	written, names := m.let()
	m.scope = append(m.scope, names...)
	return written
}

func (m *maker) newCon() string {
	if m.heedless() {
		return m.pick(append(m.plain, m.with...))
	}
	return "C" + strconv.Itoa(len(m.plain)+len(m.with))
}

func (m *maker) addCon(name string, with bool) {
	if with {
		m.with = append(m.with, name)
	} else {
		m.plain = append(m.plain, name)
	}
}

func (m *maker) newType() string {
	if m.heedless() {
		return m.pick(append(m.types, "list", "ref", "array"))
	}
	name := "t" + strconv.Itoa(len(m.types))
	m.types = append(m.types, name)
	return name
}

func (m *maker) variant() string {
	name := m.newType()
	var cons []string
	for range 1 + m.r.Intn(5) {
		of, con := m.of(), m.newCon()
		m.addCon(con, of != "")
		cons = append(cons, con+of)
	}
	return "type " + name + " = " + strings.Join(cons, " | ")
}

func (m *maker) record() string {
	name := m.newType()
	var all, written []string
	for i := range 1 + m.r.Intn(4) {
		label := "l" + strconv.Itoa(len(m.labels)) + strconv.Itoa(i)
		if m.heedless() && len(m.labels) > 0 {
			label = m.labels[0][0]
		}
		all = append(all, label)
		if m.r.Intn(2) == 0 {
			label = "mutable " + label
		}
		written = append(written, label+" : "+m.ty(3))
	}
	m.labels = append(m.labels, all)
	return "type " + name + " = {" + strings.Join(written, "; ") + "}"
}

func (m *maker) of() string {
	if m.r.Intn(2) == 0 {
		return ""
	}
	return " of " + m.ty(3)
}

func (m *maker) ty(deep int) string {
	form := m.r.Intn(7)
	switch {
	case m.heedless():
		return m.pick([]string{"list", "int t5", "t9", "t8", "u w"})
	case deep == 0 || form < 3:
		return m.pick(m.types)
	case form < 5:
		return m.ty(deep-1) + " " + m.pick([]string{"list", "ref", "array"})
	case form == 5:
		return "(" + m.ty(deep-1) + " -> " + m.ty(deep-1) + ")"
	}
	return "(" + m.ty(deep-1) + " * " + m.ty(deep-1) + " * " + m.ty(deep-1) + ")"
}

// let writes a let without a body, and tells the names that it binds.
func (m *maker) let() (string, []string) {
	var written []string
	names := m.fresh(m.r.Intn(4))
	if m.r.Intn(3) == 0 {
		names = append(m.fresh(2), "f")[1:]
		around := m.scope
		m.scope = append(slices.Clone(m.scope), names...)
		for _, s := range names {
			written = append(written, m.recursive(s))
		}
		m.scope = around
		if m.heedless() {
			written = append(written, m.pick([]string{"f = 1", "f x = x", "(g, h) = function _ -> 1", "_ = fun x -> x"}))
		}
		return "let rec " + strings.Join(written, " and "), names
	}
	for _, some := range m.split(names, 1+m.r.Intn(2)*m.r.Intn(3)) {
		written = append(written, m.bind(some))
	}
	return "let " + strings.Join(written, " and "), names
}

func (m *maker) bind(names []string) string {
	if len(names) == 1 && m.r.Intn(2) == 0 {
		params, body := m.function()
		return names[0] + " " + params + " = " + body
	}
	return m.pattern(names) + " = " + m.expr()
}

func (m *maker) recursive(name string) string {
	if m.r.Intn(3) == 0 {
		return name + " = function " + m.arms()
	}
	params, body := m.function()
	return name + " " + params + " = " + body
}

// function writes parameters, and a body in which they are bound.
func (m *maker) function() (string, string) {
	around := m.scope
	m.scope = slices.Clone(m.scope)
	var params []string
	for range 1 + m.r.Intn(3) {
		names := m.fresh(m.r.Intn(3))
		params = append(params, m.pattern(names))
		m.scope = append(m.scope, names...)
	}
	body := m.expr()
	m.scope = around
	return strings.Join(params, " "), body
}

// fresh tells unlike names.
func (m *maker) fresh(many int) []string {
	var names []string
	for len(names) < many {
		if s := m.pick(pool()); !slices.Contains(names, s) {
			names = append(names, s)
		}
	}
	return names
}

// split tells names in as many lists, in another order.
func (m *maker) split(names []string, many int) [][]string {
	lists := make([][]string, many)
	for _, i := range m.r.Perm(len(names)) {
		k := m.r.Intn(many)
		lists[k] = append(lists[k], names[i])
	}
	return lists
}
