package core_test

import (
	"slices"
	"strings"

	"grapnel/api"
	"grapnel/core"
)

// The model tells of a tree all that is wrong with it, in order, and, apart from that, its core, if nothing is wrong.
// It looks everything up in the items themselves, and in lists of names that it copies for each scope.

type wrong struct {
	e  api.Errno
	at int
}

// conOf tells a constructor's number and whether it has something, of those that the items declare.
func conOf(items []api.Node, name string) (int64, bool, bool) {
	counts := map[bool]int64{}
	exns := map[bool]int64{}
	for _, s := range strings.Fields("Match_failure Division_by_zero Invalid_argument End_of_file Not_found Failure") {
		with := s == "Failure"
		if s == name {
			return exns[with], with, true
		}
		exns[with]++
	}
	for _, it := range items {
		switch it.Kind {
		case api.IExn:
			if it.S == name {
				return exns[len(it.L) == 1], len(it.L) == 1, true
			}
			exns[len(it.L) == 1]++
		case api.IVariant:
			clear(counts)
			for _, c := range it.L {
				if c.S == name {
					return counts[len(c.L) == 1], len(c.L) == 1, true
				}
				counts[len(c.L) == 1]++
			}
		}
	}
	return 0, false, false
}

// labelOf tells the record that has a label, and which one it is there.
func labelOf(items []api.Node, name string) (api.Node, int, bool) {
	for _, it := range items {
		if it.Kind != api.IRecord {
			continue
		}
		for i, l := range it.L {
			if l.S == name {
				return it, i, true
			}
		}
	}
	return api.Node{}, 0, false
}

func isType(items []api.Node, name string, builtIn string) bool {
	return slices.Contains(strings.Fields(builtIn), name) || slices.ContainsFunc(items, func(it api.Node) bool {
		return (it.Kind == api.IVariant || it.Kind == api.IRecord) && it.S == name
	})
}

// declaredWrong tells what is wrong with the names that item i declares.
func declaredWrong(items []api.Node, i int) []wrong {
	var all []wrong
	it := items[i]
	if it.Kind == api.ILet {
		return nil
	}
	if it.Kind == api.IExn {
		if _, _, ok := conOf(items[:i], it.S); ok {
			all = append(all, wrong{api.ErrTwice, it.At})
		}
		return all
	}
	if isType(items[:i], it.S, "int bool unit string exn list ref array") {
		all = append(all, wrong{api.ErrTwice, it.At})
	}
	for k, x := range it.L {
		half := it
		half.L = it.L[:k]
		ahead := append(slices.Clone(items[:i]), half)
		_, _, isCon := conOf(ahead, x.S)
		_, _, isLabel := labelOf(ahead, x.S)
		if it.Kind == api.IVariant && isCon || it.Kind == api.IRecord && isLabel {
			all = append(all, wrong{api.ErrTwice, x.At})
		}
	}
	return all
}

// typesWrong tells what is wrong with the types in a node; items are those declared so far.
func typesWrong(items []api.Node, n api.Node) []wrong {
	var all []wrong
	one := slices.Contains([]string{"list", "ref", "array"}, n.S)
	if n.Kind == api.TName && !isType(items, n.S, "int bool unit string exn") || n.Kind == api.TApp && !one {
		all = append(all, wrong{api.ErrName, n.At})
	}
	for _, x := range n.L {
		all = append(all, typesWrong(items, x)...)
	}
	return all
}

// namesOf tells the names that a pattern binds, in order; of a POr those of the first way.
func namesOf(p api.Node) []string {
	switch p.Kind {
	case api.PName:
		return []string{p.S}
	case api.PAs:
		return append([]string{p.S}, namesOf(p.L[0])...)
	case api.POr:
		return namesOf(p.L[0])
	}
	return namesOfAll(p.L)
}

func namesOfAll(l []api.Node) []string {
	var all []string
	for _, x := range l {
		all = append(all, namesOf(x)...)
	}
	return all
}

// standing tells all names that stand in a pattern, and how often.
func standing(p api.Node) map[string]int {
	all := map[string]int{}
	if p.Kind == api.PName || p.Kind == api.PAs {
		all[p.S]++
	}
	for _, x := range p.L {
		for s, n := range standing(x) {
			all[s] += n
		}
	}
	return all
}

func sameNames(a, b map[string]int) bool {
	for s := range a {
		if b[s] == 0 {
			return false
		}
	}
	return len(a) == len(b)
}

// plus tells a longer list, in new memory.
func plus(l []string, more ...string) []string { return append(slices.Clone(l), more...) }

// lister lists what is wrong with a let.
type lister struct {
	items []api.Node // those up to the let
	all   []wrong
}

func (l *lister) add(e api.Errno, at int) { l.all = append(l.all, wrong{e, at}) }

// constructed lists what is wrong with an NCon or PCon itself.
func (l *lister) constructed(n api.Node) {
	if n.S == "::" {
		return
	}
	_, with, ok := conOf(l.items, n.S)
	switch {
	case !ok:
		l.add(api.ErrName, n.At)
	case with != (len(n.L) == 1):
		l.add(api.ErrForm, n.At)
	}
}

// fielded lists what is wrong with an NRecord or PRecord itself.
func (l *lister) fielded(n api.Node) {
	record, _, ok := labelOf(l.items, n.L[0].S)
	if !ok {
		l.add(api.ErrName, n.L[0].At)
		return
	}
	for i, f := range n.L {
		if _, _, ok := labelOf([]api.Node{record}, f.S); !ok {
			l.add(api.ErrName, f.At)
		}
		if slices.ContainsFunc(n.L[:i], func(x api.Node) bool { return x.S == f.S }) {
			l.add(api.ErrTwice, f.At)
		}
	}
	if n.Kind == api.NRecord && len(n.L) < len(record.L) {
		l.add(api.ErrForm, n.At)
	}
}

// pattern lists what is wrong with a pattern that has bound some names ahead, and tells these with its own.
func (l *lister) pattern(p api.Node, ahead []string) []string {
	switch p.Kind {
	case api.PName, api.PAs:
		if slices.Contains(ahead, p.S) {
			l.add(api.ErrTwice, p.At)
		}
		ahead = plus(ahead, p.S)
	case api.PCon:
		l.constructed(p)
	case api.PRecord:
		l.fielded(p)
	case api.POr:
		if !sameNames(standing(p.L[0]), standing(p.L[1])) {
			l.add(api.ErrName, p.At)
		}
		l1 := l.pattern(p.L[0], ahead)
		l.pattern(p.L[1], ahead)
		return l1
	}
	for _, x := range p.L {
		ahead = l.pattern(x, ahead)
	}
	return ahead
}

// let lists what is wrong with a let, all but its body, and tells the names bound in that.
func (l *lister) let(n api.Node, binds []api.Node, env []string) []string {
	var patterns, values []api.Node
	for _, b := range binds {
		patterns, values = append(patterns, b.L[0]), append(values, b.L[1])
	}
	inner := plus(env, namesOfAll(patterns)...)
	if n.N == 0 {
		for _, v := range values {
			l.expr(v, env)
		}
		l.pattern(api.Node{Kind: api.PTuple, L: patterns}, nil)
		return inner
	}
	for i, b := range binds {
		if b.L[0].Kind != api.PName || b.L[1].Kind != api.NFun && b.L[1].Kind != api.NCases {
			l.add(api.ErrForm, b.At)
		}
		if slices.Contains(namesOfAll(patterns[:i]), b.L[0].S) {
			l.add(api.ErrTwice, b.L[0].At)
		}
	}
	for _, v := range values {
		l.expr(v, inner)
	}
	return inner
}

// expr lists what is wrong with an expression in which these names are bound.
func (l *lister) expr(n api.Node, env []string) {
	switch n.Kind {
	case api.NName:
		l.name(n, env)
	case api.NCon:
		l.constructed(n)
	case api.NRecord:
		l.fielded(n)
	case api.NGet, api.NSet:
		if record, i, ok := labelOf(l.items, n.S); !ok {
			l.add(api.ErrName, n.At)
		} else if n.Kind == api.NSet && record.L[i].N == 0 {
			l.add(api.ErrForm, n.At)
		}
	case api.NApp:
		if isRef(n, env) {
			l.expr(n.L[1], env)
			return
		}
	case api.NFun, api.NArm:
		l.scoped(n, env)
		return
	case api.NLet:
		last := len(n.L) - 1
		l.expr(n.L[last], l.let(n, n.L[:last], env))
		return
	case api.NFor:
		l.expr(n.L[0], env)
		l.expr(n.L[1], env)
		l.expr(n.L[2], plus(env, n.S))
		return
	}
	for _, x := range n.L {
		l.expr(x, env)
	}
}

// scoped lists what is wrong with an NFun or an NArm.
func (l *lister) scoped(n api.Node, env []string) {
	for _, x := range n.L {
		if x.Kind >= api.PInt {
			l.pattern(x, nil)
			env = plus(env, namesOf(x)...)
			continue
		}
		l.expr(x, env)
	}
}

func (l *lister) name(n api.Node, env []string) {
	switch {
	case slices.Contains(env, n.S) || slices.Contains(core.Builtins(), n.S):
	case n.S == "ref":
		l.add(api.ErrForm, n.At)
	default:
		l.add(api.ErrName, n.At)
	}
}

// isRef tells whether an NApp is `ref` of one thing.
func isRef(n api.Node, env []string) bool {
	return len(n.L) == 2 && n.L[0].Kind == api.NName && n.L[0].S == "ref" && !slices.Contains(env, "ref")
}

// allWrong lists what is wrong with a program.
func allWrong(n api.Node) []wrong {
	var all []wrong
	for i := range n.L {
		all = append(all, declaredWrong(n.L, i)...)
	}
	for i, it := range n.L {
		if it.Kind != api.ILet {
			all = append(all, typesWrong(n.L[:i+1], it)...)
		}
	}
	var env []string
	for i, it := range n.L {
		if it.Kind == api.ILet {
			l := &lister{items: n.L[:i]}
			env = l.let(it, it.L, env)
			all = append(all, l.all...)
		}
	}
	return all
}
