package core_test

import (
	"testing"

	"grapnel/api"
	"grapnel/core"
	"grapnel/parse"
)

// made tells the tree of a source that a seed makes up, if it isn't too great.
func made(t *testing.T, seed int) (string, api.Node, bool) {
	t.Helper()
	s := newMaker(int64(seed), seed%3*5, 10+seed%70).source()
	n, e, at := parse.Parse(s)
	if e == api.ErrSyntax || e == api.ErrToken {
		t.Fatalf("%s: parse tells %d at %d", s, e, at)
	}
	return s, n, e == api.OK
}

// P9.1: whatever the source, Resolve tells what the model tells.
func TestAsTheModel(t *testing.T) {
	seen := map[api.Errno]int{}
	kinds := map[int]int{}
	for seed := range 5000 {
		s, n, ok := made(t, seed)
		if !ok {
			continue
		}
		d, c, e, at := core.Resolve(n)
		seen[e]++
		if all := allWrong(n); len(all) > 0 {
			if e != all[0].e || at != all[0].at {
				t.Fatalf("%s:\ngot  %d at %d\nwant %v", s, e, at, all)
			}
			continue
		}
		if got, want := told(c), program(n.L, 0, nil); e != api.OK || at != 0 || got != want {
			t.Fatalf("%s: %d at %d\ngot  %s\nwant %s", s, e, at, got, want)
		}
		if got, want := declsTold(d), declsForm(n.L); got != want {
			t.Fatalf("%s:\ngot\n%s\nwant\n%s", s, got, want)
		}
		countKinds(c, kinds)
	}
	for _, e := range []api.Errno{api.OK, api.ErrName, api.ErrTwice, api.ErrForm} {
		if seen[e] < 200 {
			t.Errorf("only %d sources of %d", seen[e], e)
		}
	}
	for kind := api.KInt; kind <= api.QAs; kind++ {
		if (kind <= api.KOp || kind >= api.QAny) && kinds[kind] < 20 {
			t.Errorf("only %d of kind %d", kinds[kind], kind)
		}
	}
}

func countKinds(c api.Core, kinds map[int]int) {
	kinds[c.Kind]++
	for _, x := range c.L {
		countKinds(x, kinds)
	}
}

// renamed tells a tree with other names: of variables, constructors, labels, types.
func renamed(n api.Node, variable, con, label, sort func(string) string) api.Node {
	switch n.Kind {
	case api.NName, api.PName, api.PAs, api.NFor:
		n.S = variable(n.S)
	case api.NCon, api.PCon, api.ICon, api.IExn:
		n.S = con(n.S)
	case api.NField, api.PField, api.NGet, api.NSet, api.ILabel:
		n.S = label(n.S)
	case api.IVariant, api.IRecord, api.TName:
		n.S = sort(n.S)
	}
	var parts []api.Node
	for _, x := range n.L {
		parts = append(parts, renamed(x, variable, con, label, sort))
	}
	n.L = parts
	return n
}

func asItIs(s string) string { return s }

// by tells a name's other name, if it has one.
func by(other map[string]string) func(string) string {
	return func(s string) string {
		if o, ok := other[s]; ok {
			return o
		}
		return s
	}
}

// sameAnswer holds that two trees have the same core, or the same error at the same place.
func sameAnswer(t *testing.T, s string, a, b api.Node) api.Errno {
	t.Helper()
	d1, c1, e1, at1 := core.Resolve(a)
	d2, c2, e2, at2 := core.Resolve(b)
	if e1 != e2 || at1 != at2 || told(c1) != told(c2) || declsTold(d1) != declsTold(d2) {
		t.Fatalf("%s:\n%d at %d %s\n%d at %d %s", s, e1, at1, told(c1), e2, at2, told(c2))
	}
	return e1
}

// P9.3: with other names in the same places, each one's own, variables have the same core.
func TestOtherVariables(t *testing.T) {
	fine := 0
	for seed := range 1500 {
		s, n, ok := made(t, seed)
		if !ok {
			continue
		}
		long := by(map[string]string{"a": "a_longer_one", "b": "c'", "c": "_", "x": "t5", "y": "l00", "f": "int"})
		turned := by(map[string]string{"a": "b", "b": "c", "c": "d", "d": "x", "x": "y", "y": "a"})
		sameAnswer(t, s, n, renamed(n, long, asItIs, asItIs, asItIs))
		if sameAnswer(t, s, n, renamed(n, turned, asItIs, asItIs, asItIs)) != api.OK {
			continue
		}
		fine++
		sameAnswer(t, s, n, renamed(n, by(map[string]string{"b": "string_length"}), asItIs, asItIs, asItIs))
	}
	if fine < 400 {
		t.Errorf("only %d sources had a core", fine)
	}
}

// P9.3: with other names in the same places, each one's own, constructors, labels and types have the same core, but for these names in it.
func TestOtherConstructorsLabelsTypes(t *testing.T) {
	// What the maker declares has a digit behind its first letter; nothing that is built in has.
	declaredOnly := func(s string) string {
		if len(s) > 1 && s[1] >= '0' && s[1] <= '9' {
			return s + "'"
		}
		return s
	}
	fine := 0
	for seed := range 1500 {
		s, n, ok := made(t, seed)
		if !ok {
			continue
		}
		_, c, e, at := core.Resolve(n)
		_, c2, e2, at2 := core.Resolve(renamed(n, asItIs, declaredOnly, declaredOnly, declaredOnly))
		if e != e2 || at != at2 || told(named(c, declaredOnly)) != told(c2) {
			t.Fatalf("%s:\n%d at %d %s\n%d at %d %s", s, e, at, told(c), e2, at2, told(c2))
		}
		if e == api.OK {
			fine++
		}
	}
	if fine < 400 {
		t.Errorf("only %d sources had a core", fine)
	}
}

// named tells a core with other names of constructors, labels and records.
func named(c api.Core, other func(string) string) api.Core {
	switch c.Kind {
	case api.KCon, api.QCon, api.KRecord, api.QRecord, api.KGet, api.KSet:
		c.S = other(c.S)
	}
	var parts []api.Core
	for _, x := range c.L {
		parts = append(parts, named(x, other))
	}
	c.L = parts
	return c
}
