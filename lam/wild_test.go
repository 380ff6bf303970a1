package lam_test

import (
	"math"
	"math/rand"
	"reflect"
	"slices"
	"testing"

	"grapnel/api"
	"grapnel/lam"
)

// wildLam makes up a node of any form.
func wildLam(r *rand.Rand, depth int) api.Lam {
	c := least(pick(r, r.Intn(25), r.Intn(25), 1+r.Intn(23), 1+r.Intn(3)))
	if r.Intn(3) == 0 {
		c.L = nil
		for depth > 0 && r.Intn(4) > 0 {
			c.L = append(c.L, wildLam(r, depth-1))
		}
	}
	for i := range c.L {
		if depth > 0 && r.Intn(2) == 0 {
			c.L[i] = wildLam(r, depth-1)
		}
	}
	for r.Intn(6) == 0 {
		c = changedNode(r, c)
	}
	return c
}

// changedNode tells a node that is another one but for one of its fields.
func changedNode(r *rand.Rand, c api.Lam) api.Lam {
	n := pick(r, int64(r.Intn(4)), int64(r.Intn(45)), c.N+1, c.N-1, -1, 1<<20, 1<<20+1, 200, 4096, math.MaxInt64, math.MinInt64, 1<<62)
	switch r.Intn(9) {
	case 0:
		c.Kind = r.Intn(25)
	case 1, 2:
		c.N = n
	case 3, 4:
		c.V = pick(r, r.Intn(4), c.V+1, c.V-1, -1, 1<<20, 1<<20+1, math.MaxInt, math.MinInt)
	case 5:
		c.S = "a"
	case 6:
		c.Ns = changedList(r, c.Ns, n)
	case 7:
		c.Ts = changedList(r, c.Ts, n)
	case 8:
		if k := r.Intn(len(c.L) + 1); r.Intn(2) == 0 || k == len(c.L) {
			c.L = slices.Insert(slices.Clone(c.L), k, num(1))
		} else {
			c.L = slices.Delete(slices.Clone(c.L), k, k+1)
		}
	}
	return c
}

func changedList(r *rand.Rand, l []int64, n int64) []int64 {
	l = slices.Clone(l)
	switch k := r.Intn(len(l) + 1); {
	case r.Intn(2) == 0 || k == len(l):
		return slices.Insert(l, k, n)
	case r.Intn(2) == 0:
		l[k] = n
		return l
	default:
		return slices.Delete(l, k, k+1)
	}
}

// somewhere tells a node in which one within it, or itself, is what f makes of it.
func somewhere(r *rand.Rand, c api.Lam, f func(c api.Lam) api.Lam) api.Lam {
	k := r.Intn(len(listed(&c)))
	var within func(c api.Lam) api.Lam
	within = func(c api.Lam) api.Lam {
		if k--; k == -1 {
			return f(c)
		}
		c.L = slices.Clone(c.L)
		for i := range c.L {
			c.L[i] = within(c.L[i])
		}
		return c
	}
	return within(c)
}

// P13.1, R1: of any program, one that is nearly such as may be or of any form, May tells what the sentences of the chapter tell, and a run is a plain one.
func TestAnyProgram(t *testing.T) {
	is, ends := map[bool]int{}, map[int]int{}
	for seed := range 40000 {
		r := rand.New(rand.NewSource(int64(seed)))
		var p api.Lams
		if seed%2 == 0 {
			p = program(around(wildLam(r, 1+seed%5)))
		} else {
			p = newMaker(int64(seed), 0, 5+seed%40).program()
			for range 1 + r.Intn(2) {
				p.Body = somewhere(r, p.Body, func(c api.Lam) api.Lam { return pick(r, changedNode, wildChild)(r, c) })
			}
		}
		want, ok := plainly(p, []string{"a"}, 300)
		if got := lam.May(p); got != ok {
			t.Fatalf("seed %d: %v: May tells %v", seed, p.Body, got)
		}
		if got := lam.Run(p, []string{"a"}, 300); got != want {
			t.Fatalf("seed %d: %v: got %+v, want %+v", seed, p.Body, got, want)
		}
		is[ok]++
		if ok {
			ends[want.Kind]++
		}
	}
	if is[true] < 3000 || is[false] < 3000 || len(ends) < 4 {
		t.Errorf("only %v, %v", is, ends)
	}
}

// wildChild tells a node with another one's kind, or one of any form in its place.
func wildChild(r *rand.Rand, c api.Lam) api.Lam {
	if r.Intn(2) == 0 {
		return wildLam(r, 2)
	}
	return pick(r, exit(int64(r.Intn(4))), at(r.Intn(9)), catch(int64(r.Intn(4)), nil, c, num(1)), try(c, r.Intn(9), num(1)), let(r.Intn(9), num(1), c), fun(r.Intn(9), 1, c), exit(int64(r.Intn(4)), c))
}

// P13.2: other numbers for variables and catches change nothing.
func TestOtherNumbers(t *testing.T) {
	alike := 0
	for seed := range 2000 {
		p := made(seed, []int{0, 30}[seed%2])
		r := rand.New(rand.NewSource(int64(seed)))
		q := program((&renumber{r: r, most: pick(r, 1<<20, 3000, 3000)}).of(p.Body, map[int]int{}, map[int64]int64{}))
		if !lam.May(q) {
			t.Fatalf("seed %d: %v may not be", seed, q.Body)
		}
		for _, fuel := range []int64{5000, int64(r.Intn(300)), int64(r.Intn(300))} {
			got, want := lam.Run(q, linesOf(seed), fuel), lam.Run(p, linesOf(seed), fuel)
			if got != want {
				t.Fatalf("seed %d, fuel %d: got %+v, want %+v", seed, fuel, got, want)
			}
		}
		if reflect.DeepEqual(p, q) {
			alike++
		}
	}
	if alike > 200 { // some have no variables
		t.Errorf("%d have the same numbers", alike)
	}
}

// renumber gives variables and catches other numbers.
type renumber struct {
	r    *rand.Rand
	most int
}

// fresh tells the first of some numbers that none of those around is.
func (x *renumber) fresh(many int, vars map[int]int) int {
	for {
		v := pick(x.r, x.r.Intn(x.most+2-many), x.r.Intn(x.most+2-many), 0, x.most+1-many)
		free := true
		for _, n := range vars {
			free = free && (n < v || n >= v+many)
		}
		if free {
			return v
		}
	}
}

func (x *renumber) bind(v, many int, vars map[int]int) map[int]int {
	more := map[int]int{}
	for a, b := range vars {
		more[a] = b
	}
	to := x.fresh(many, vars)
	for i := range many {
		more[v+i] = to + i
	}
	return more
}

func (x *renumber) of(c api.Lam, vars map[int]int, catches map[int64]int64) api.Lam {
	inner, within, none := vars, catches, map[int64]int64{}
	from := 0 // the first part in which inner are bound
	switch c.Kind {
	case api.LVar:
		c.V = vars[c.V]
	case api.LFun:
		inner, within = x.bind(c.V, int(c.N), vars), none
		c.V = inner[c.V]
	case api.LRec:
		inner = x.bind(c.V, int(c.N), vars)
		c.V = inner[c.V]
	case api.LLet, api.LTry, api.LFor:
		inner, from = x.bind(c.V, 1, vars), len(c.L)-1
		c.V = inner[c.V]
	case api.LExit:
		c.N = catches[c.N]
	case api.LCatch:
		return x.ofCatch(c, vars, catches)
	}
	l := c.L
	c.L = nil
	for i := range l {
		if i < from {
			c.L = append(c.L, x.of(l[i], vars, within))
		} else {
			c.L = append(c.L, x.of(l[i], inner, within))
		}
	}
	return c
}

func (x *renumber) ofCatch(c api.Lam, vars map[int]int, catches map[int64]int64) api.Lam {
	inner := vars
	var ns []int64
	for _, v := range c.Ns {
		inner = x.bind(int(v), 1, inner)
		ns = append(ns, int64(inner[int(v)]))
	}
	taken := map[int]int{}
	within := map[int64]int64{}
	for a, b := range catches {
		taken[int(a)], within[a] = int(b), b
	}
	within[c.N] = int64(x.fresh(1, taken))
	return api.Lam{Kind: c.Kind, N: within[c.N], Ns: ns, L: []api.Lam{x.of(c.L[0], vars, within), x.of(c.L[1], inner, catches)}}
}
