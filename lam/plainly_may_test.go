package lam_test

import (
	"maps"
	"slices"
	"sort"

	"grapnel/api"
)

// mayPlainly tells whether a program may be, as one reads the chapter: sentence by sentence, each asked of all nodes by itself.
func mayPlainly(p api.Lams) bool {
	if !exnsPlainly(p.Exns) || !countsPlainly(&p.Body) {
		return false
	}
	for _, c := range listed(&p.Body) {
		if !fieldsPlainly(c) || !numbersPlainly(c) || !partsPlainly(c) || !listsPlainly(c) {
			return false
		}
	}
	return boundPlainly(&p.Body, map[int64]bool{}) && exitsPlainly(&p.Body, map[int64]int{}, map[int64]bool{})
}

func exnsPlainly(l []api.Con) bool {
	known := builtIn()
	if len(l) < 6 || len(l) > 200 {
		return false
	}
	names, with, without := map[string]bool{}, 0, 0
	for i, x := range l {
		if i < 6 && (x.Name != known[i].Name || len(x.Of) != len(known[i].Of)) || i == 5 && (x.Of[0].S != "string" || x.Of[0].V != 0 || len(x.Of[0].L) != 0) {
			return false
		}
		if x.Name == "" || names[x.Name] || len(x.Of) > 1 {
			return false
		}
		names[x.Name] = true
		if len(x.Of) == 0 && x.N != without || len(x.Of) > 0 && x.N != with {
			return false
		}
		if len(x.Of) == 0 {
			without++
		} else {
			with++
		}
	}
	return true
}

// countsPlainly tells whether there aren't too many nodes, nor too deep ones.
func countsPlainly(c *api.Lam) bool {
	level := []*api.Lam{c}
	total := 0
	for deep := 1; len(level) > 0; deep++ {
		total += len(level)
		if deep > 2000 || total > 20000 {
			return false
		}
		var next []*api.Lam
		for _, x := range level {
			for i := range x.L {
				next = append(next, &x.L[i])
			}
			if len(next) > 20000 {
				return false
			}
		}
		level = next
	}
	return true
}

func listed(c *api.Lam) []*api.Lam {
	all := []*api.Lam{c}
	for i := 0; i < len(all); i++ {
		for k := range all[i].L {
			all = append(all, &all[i].L[k])
		}
	}
	return all
}

// fieldsPlainly tells whether a node has a kind, and no field that this hasn't.
func fieldsPlainly(c *api.Lam) bool {
	among := func(kinds ...int) bool { return slices.Contains(kinds, c.Kind) }
	switch {
	case c.Kind < 1 || c.Kind > 23:
		return false
	case c.N != 0 && !among(api.LInt, api.LFun, api.LRec, api.LBlock, api.LField, api.LSet, api.LOp, api.LCall, api.LCatch, api.LExit, api.LFor):
		return false
	case c.V != 0 && !among(api.LVar, api.LFun, api.LRec, api.LLet, api.LFor, api.LTry):
		return false
	case c.S != "" && !among(api.LText):
		return false
	case len(c.Ns) > 0 && !among(api.LSwitch, api.LCatch):
		return false
	case len(c.Ts) > 0 && !among(api.LSwitch):
		return false
	}
	return true
}

func numbersPlainly(c *api.Lam) bool {
	switch c.Kind {
	case api.LInt:
		return c.N<<1>>1 == c.N
	case api.LText:
		return len(c.S) <= 4096
	case api.LField, api.LSet:
		return 0 <= c.N && c.N <= 4095
	case api.LBlock:
		return 0 <= c.N && c.N <= 199
	case api.LOp:
		return 1 <= c.N && c.N <= 11 || 31 <= c.N && c.N <= 42
	case api.LCall:
		return 1 <= c.N && c.N <= 12
	case api.LFun, api.LRec:
		return 1 <= c.N && c.N <= 30
	case api.LFor:
		return c.N == 0 || c.N == 1
	case api.LCatch:
		return 0 <= c.N && c.N <= 1<<20
	}
	return true
}

func partsPlainly(c *api.Lam) bool {
	n := len(c.L)
	switch c.Kind {
	case api.LInt, api.LText, api.LVar:
		return n == 0
	case api.LFun, api.LField, api.LRaise:
		return n == 1
	case api.LLet, api.LSet, api.LAt, api.LSeq, api.LWhile, api.LTry, api.LCatch:
		return n == 2
	case api.LPut, api.LIf, api.LFor:
		return n == 3
	case api.LApp:
		return n >= 2 && n <= 30
	case api.LBlock:
		return n <= 4096
	case api.LOp:
		return n == 1 && slices.Contains([]int64{api.OpNeg, api.OpNot, api.OpRef, api.OpDeref}, c.N) || n == 2 && !slices.Contains([]int64{api.OpNeg, api.OpNot, api.OpRef, api.OpDeref}, c.N)
	case api.LCall:
		return n == 2 && slices.Contains([]int64{api.BByte, api.BMake, api.BCompare}, c.N) || n == 1 && !slices.Contains([]int64{api.BByte, api.BMake, api.BCompare}, c.N)
	case api.LSwitch:
		return n == 2+len(c.Ns)+len(c.Ts)
	case api.LExit:
		return n <= 30
	}
	for i := range n - 1 { // an LRec's
		if c.L[i].Kind != api.LFun {
			return false
		}
	}
	return int64(n) == c.N+1
}

func listsPlainly(c *api.Lam) bool {
	if c.Kind == api.LCatch {
		return len(c.Ns) <= 30
	}
	for _, l := range [][]int64{c.Ns, c.Ts} {
		if !sort.SliceIsSorted(l, func(i, k int) bool { return l[i] < l[k] }) || len(slices.Compact(slices.Clone(l))) < len(l) {
			return false
		}
	}
	for _, n := range c.Ts {
		if n < 0 || n > 199 {
			return false
		}
	}
	return true
}

// boundPlainly tells whether variables are bound where they stand, and each but once.
func boundPlainly(c *api.Lam, around map[int64]bool) bool {
	if c.Kind == api.LVar {
		return around[int64(c.V)]
	}
	var vars []int64
	from := len(c.L) // the first part in which they are bound
	switch c.Kind {
	case api.LFun, api.LRec:
		for i := range c.N {
			vars = append(vars, int64(c.V)+i)
		}
		from = 0
	case api.LLet, api.LTry, api.LFor:
		vars, from = []int64{int64(c.V)}, len(c.L)-1
	case api.LCatch:
		vars, from = c.Ns, 1
	}
	within := maps.Clone(around)
	for _, v := range vars {
		if v < 0 || v > 1<<20 || within[v] {
			return false
		}
		within[v] = true
	}
	for i := range c.L {
		if i < from && !boundPlainly(&c.L[i], around) || i >= from && !boundPlainly(&c.L[i], within) {
			return false
		}
	}
	return true
}

// exitsPlainly tells whether catches and exits are as they may be: in reach are the LCatches that an exit may lead to, with how many Ns they have, taken the numbers that an LCatch may not have.
func exitsPlainly(c *api.Lam, reach map[int64]int, taken map[int64]bool) bool {
	none := map[int64]int{}
	switch c.Kind {
	case api.LFun:
		return exitsPlainly(&c.L[0], none, map[int64]bool{})
	case api.LTry:
		return exitsPlainly(&c.L[0], none, taken) && exitsPlainly(&c.L[1], reach, taken)
	case api.LCatch:
		if taken[c.N] {
			return false
		}
		more, also := maps.Clone(reach), maps.Clone(taken)
		more[c.N], also[c.N] = len(c.Ns), true
		return exitsPlainly(&c.L[0], more, also) && exitsPlainly(&c.L[1], reach, taken)
	case api.LExit:
		if many, ok := reach[c.N]; !ok || many != len(c.L) {
			return false
		}
	}
	for i := range c.L {
		if !exitsPlainly(&c.L[i], reach, taken) {
			return false
		}
	}
	return true
}
