package core

import (
	"slices"

	"grapnel/api"
)

// builtIn is the item of what no item declares: it stands ahead of them all.
const builtIn = -1

// con is a constructor, or an exception.
type con struct {
	item int // which item declares it
	n    int
	with bool // it has something
}

// label is one of the record that the item declares.
type label struct {
	item, n int
}

// resolver goes through a program's items.
// A variable's number is its place in names, which holds those that are bound around.
// err is what was found wrong first: it stays, and what is gone through behind it is of no account, so that no step need ask for it.
type resolver struct {
	items  []api.Node
	item   int // the one that is gone through: what later ones declare can't be named yet
	types  map[string]int
	cons   map[string]con
	labels map[string]label
	counts [2]int // of exceptions without, and with, something
	names  []string
	err    error
}

func newResolver(items []api.Node) *resolver {
	r := &resolver{items: items, types: map[string]int{}, cons: map[string]con{}, labels: map[string]label{}}
	for _, s := range []string{"int", "bool", "unit", "string", "exn", "list", "ref", "array"} {
		r.types[s] = builtIn
	}
	for _, x := range builtInExns() {
		r.cons[x.Name] = number(builtIn, len(x.Of) > 0, &r.counts)
	}
	return r
}

// builtInExns tells the exceptions that no item declares.
func builtInExns() []api.Con {
	return []api.Con{
		{Name: "Match_failure", N: 0}, {Name: "Division_by_zero", N: 1}, {Name: "Invalid_argument", N: 2},
		{Name: "End_of_file", N: 3}, {Name: "Not_found", N: 4},
		{Name: "Failure", N: 0, Of: []api.Type{{S: "string"}}},
	}
}

// number tells the next constructor among those of its kind, and counts it.
func number(item int, with bool, counts *[2]int) con {
	kind := 0
	if with {
		kind = 1
	}
	counts[kind]++
	return con{item: item, n: counts[kind] - 1, with: with}
}

// wrong keeps what is wrong, if it is the first, and tells a core in place of the one that can't be.
func (r *resolver) wrong(e api.Errno, at int) api.Core {
	if r.err == nil {
		r.err = &fault{errno: e, at: at}
	}
	return api.Core{}
}

// bind makes a variable, and tells its number.
func (r *resolver) bind(name string) int {
	r.names = append(r.names, name)
	return len(r.names) - 1
}

// within tells what f tells; what f binds isn't bound behind it.
func (r *resolver) within(f func() api.Core) api.Core {
	around := len(r.names)
	c := f()
	r.names = r.names[:around]
	return c
}

// variable tells the number of the variable that was bound last by that name; below 0: there is none.
func (r *resolver) variable(name string) int {
	v := len(r.names) - 1
	for v >= 0 && r.names[v] != name {
		v--
	}
	return v
}

// label tells the label of that name, if one is declared so far.
func (r *resolver) label(name string) (label, bool) {
	l, ok := r.labels[name]
	return l, ok && l.item <= r.item
}

// constructor tells the core of an NCon or a PCon, all but its parts.
func (r *resolver) constructor(kind int, n api.Node) api.Core {
	if n.S == "::" {
		return api.Core{Kind: kind, At: n.At, S: n.S}
	}
	known, ok := r.cons[n.S]
	if !ok || known.item > r.item {
		return r.wrong(api.ErrName, n.At)
	}
	if known.with != (len(n.L) > 0) {
		return r.wrong(api.ErrForm, n.At)
	}
	return api.Core{Kind: kind, At: n.At, N: int64(known.n), S: n.S}
}

// fields tells the record of an NRecord or a PRecord, and which of its labels each field is of; false: something is wrong.
func (r *resolver) fields(n api.Node) (api.Node, []int, bool) {
	var places []int
	of, _ := r.label(part(n, 0).S)
	for _, f := range n.L {
		l, ok := r.label(f.S)
		if !ok || l.item != of.item {
			r.wrong(api.ErrName, f.At)
			return api.Node{}, nil, false
		}
		if slices.Contains(places, l.n) {
			r.wrong(api.ErrTwice, f.At)
			return api.Node{}, nil, false
		}
		places = append(places, l.n)
	}
	if places == nil {
		r.wrong(api.ErrForm, n.At)
		return api.Node{}, nil, false
	}
	return r.items[of.item], places, true
}
