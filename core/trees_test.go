package core_test

import (
	"math/rand"
	"testing"

	"grapnel/api"
	"grapnel/core"
	"grapnel/parse"
)

// copied tells the same tree in new memory.
func copied(n api.Node) api.Node {
	var parts []api.Node
	for _, x := range n.L {
		parts = append(parts, copied(x))
	}
	n.L = parts
	return n
}

func sameTree(a, b api.Node) bool {
	if a.Kind != b.Kind || a.At != b.At || a.N != b.N || a.S != b.S || len(a.L) != len(b.L) {
		return false
	}
	for i := range a.L {
		if !sameTree(a.L[i], b.L[i]) {
			return false
		}
	}
	return true
}

// cores tells the lists in a core.
func cores(c api.Core, all map[*api.Core]int) {
	if cap(c.L) > 0 {
		all[&c.L[:1][0]]++
	}
	for _, x := range c.L {
		cores(x, all)
	}
}

// R3: a tree stays as it was, and what is told of it shares nothing with what else is told.
func TestNothingShared(t *testing.T) {
	for seed := range 300 {
		s, n, ok := made(t, seed)
		if !ok {
			continue
		}
		was := copied(n)
		d, c, e, _ := core.Resolve(n)
		if !sameTree(n, was) {
			t.Fatalf("%s: the tree is changed", s)
		}
		first, decls := told(c), declsTold(d)
		d2, c2, _, _ := core.Resolve(n)
		all := map[*api.Core]int{}
		cores(c, all)
		cores(c2, all)
		for _, many := range all {
			if many > 1 {
				t.Fatalf("%s: a list is shared", s)
			}
		}
		spoil(c2)
		spoilDecls(d2)
		if told(c) != first || declsTold(d) != decls {
			t.Fatalf("%s: what is told changes", s)
		}
		if _, c, again, _ := core.Resolve(n); again != e || told(c) != first {
			t.Fatalf("%s: told otherwise once more", s)
		}
	}
}

func spoil(c api.Core) {
	for i := range c.L {
		spoil(c.L[i])
		c.L[i] = api.Core{}
	}
}

func spoilDecls(d api.Decls) {
	for i := range d.Exns {
		for k := range d.Exns[i].Of {
			d.Exns[i].Of[k] = api.Type{}
		}
		d.Exns[i] = api.Con{}
	}
	for i := range d.Sorts {
		d.Sorts[i] = api.Sort{}
	}
}

// A tree that Parse doesn't tell is gone through, too: what can't be is ErrForm, and nothing stands beside an error.
func TestOtherTrees(t *testing.T) {
	for _, n := range []api.Node{
		{}, {Kind: api.NInt}, {Kind: api.Program, L: []api.Node{{}}},
		program1(api.Node{}), program1(api.Node{Kind: api.Program}), program1(api.Node{Kind: api.NArm}), program1(api.Node{Kind: api.PInt}),
		program1(api.Node{Kind: api.NBin, S: "?"}), program1(api.Node{Kind: api.NUn, S: "+"}), program1(api.Node{Kind: api.NRecord}),
		program1(api.Node{Kind: api.NFun}), program1(api.Node{Kind: api.NLet}), program1(api.Node{Kind: api.NMatch}),
		program1(api.Node{Kind: api.NCases, L: []api.Node{{Kind: api.NArm}}}),
		program1(api.Node{Kind: api.NMatch, L: []api.Node{{Kind: api.NInt}, {Kind: api.NArm, L: []api.Node{{Kind: api.PRecord}}}}}),
		{Kind: api.Program, L: []api.Node{{Kind: api.IRecord, S: "r", L: []api.Node{{Kind: api.ILabel, S: "a"}}}}},
		{Kind: api.Program, L: []api.Node{{Kind: api.ILet, L: []api.Node{{Kind: api.NBind}}}}},
		{Kind: api.Program, L: []api.Node{{Kind: api.ILet, N: 1, L: []api.Node{{Kind: api.NBind}}}}},
	} {
		d, c, e, _ := core.Resolve(n)
		if e != api.ErrForm || d.Sorts != nil || d.Exns != nil || told(c) != "(kind0@0)" {
			t.Errorf("%v: %d, %v, %v", n, e, d, c)
		}
	}
}

// program1 is a program of one let of one value.
func program1(value api.Node) api.Node {
	bind := api.Node{Kind: api.NBind, L: []api.Node{{Kind: api.PAny}, value}}
	return api.Node{Kind: api.Program, L: []api.Node{{Kind: api.ILet, L: []api.Node{bind}}}}
}

// R1: whatever the tree, Resolve ends and doesn't panic.
func TestSpoiledTrees(t *testing.T) {
	r := rand.New(rand.NewSource(9))
	for seed := range 3000 {
		_, n, ok := made(t, seed%500)
		if !ok {
			continue
		}
		n = copied(n)
		for range 1 + r.Intn(3) {
			spoilTree(r, &n)
		}
		d, c, e, at := core.Resolve(n)
		if e == api.OK && at != 0 || e != api.OK && (d.Exns != nil || d.Sorts != nil || told(c) != "(kind0@0)") {
			t.Fatalf("%d at %d beside %v, %v", e, at, d, c)
		}
	}
}

// spoilTree changes a node of a tree: its kind, its name, or its parts.
func spoilTree(r *rand.Rand, n *api.Node) {
	for len(n.L) > 0 && r.Intn(6) > 0 {
		n = &n.L[r.Intn(len(n.L))]
	}
	switch r.Intn(6) {
	case 0:
		n.L = nil
	case 1:
		if len(n.L) > 0 {
			n.L = n.L[:len(n.L)-1]
		}
	case 2:
		n.L = append(n.L, copied(*n))
	case 3:
		n.Kind = []int{r.Intn(32), 100 + r.Intn(15), 200 + r.Intn(13)}[r.Intn(3)]
	case 4:
		n.S = []string{"", "::", "[]", "ref", "a", "Failure", "l00"}[r.Intn(7)]
	case 5:
		n.N = int64(r.Intn(5) - 2)
	}
}

// R1: a tree may be far deeper than those that Parse tells.
func TestDeepTrees(t *testing.T) {
	for _, kind := range []int{api.NTuple, api.NLet, api.NFun, api.NCases} {
		n := api.Node{Kind: api.NInt}
		for range 20000 {
			n = around(kind, n)
		}
		if _, c, e, _ := core.Resolve(program1(n)); e != api.OK || c.Kind != api.KMatch {
			t.Errorf("kind %d: %d", kind, e)
		}
	}
}

// around tells a node of that kind that has n within.
func around(kind int, n api.Node) api.Node {
	name := api.Node{Kind: api.PName, S: "x"}
	switch kind {
	case api.NLet:
		return api.Node{Kind: kind, L: []api.Node{{Kind: api.NBind, L: []api.Node{name, {Kind: api.NInt}}}, n}}
	case api.NFun:
		return api.Node{Kind: kind, L: []api.Node{name, n}}
	case api.NCases:
		return api.Node{Kind: kind, L: []api.Node{{Kind: api.NArm, L: []api.Node{name, n}}}}
	}
	return api.Node{Kind: kind, L: []api.Node{n}}
}

// As many lets as a source may have, one within the other.
func TestManyLets(t *testing.T) {
	s := ""
	for len(s)+len("let a=1") <= api.MaxSource {
		s += "let a=1 "
	}
	n, e, at := parse.Parse(s[:len(s)-1])
	if e != api.OK {
		t.Fatalf("%d at %d", e, at)
	}
	_, c, e, _ := core.Resolve(n)
	deep := 0
	for c.Kind == api.KLet && c.V == deep {
		deep++
		c = c.L[1]
	}
	if e != api.OK || deep != len(n.L) || c.Kind != api.KCon {
		t.Errorf("%d, %d lets of %d", e, deep, len(n.L))
	}
}
