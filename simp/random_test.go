package simp_test

import (
	"math/rand"
	"reflect"
	"testing"

	"grapnel/api"
	"grapnel/lam"
	"grapnel/simp"
)

func linesOf(seed int) []string { return []string{"1", "abc", "", "-7"}[:seed%5] }

// made tells a program that is made up.
func made(seed, wild int) api.Lams { return newMaker(int64(seed), wild, 20+seed%90).program() }

// fuelsOf tells great fuels, small ones, and some between.
func fuelsOf(seed int) []int64 {
	if seed%20 == 0 {
		return all(300)
	}
	r := rand.New(rand.NewSource(int64(seed)))
	return []int64{5000, 3000, int64(r.Intn(20)), int64(r.Intn(50)), int64(r.Intn(100)), int64(r.Intn(300)), int64(r.Intn(1000))}
}

// spareKinds counts the spare nodes of a program by their kinds.
func spareKinds(p api.Lams, seen map[int]int) {
	for _, c := range listed(&p.Body) {
		if sparePlainly(c) {
			seen[c.Kind]++
		}
	}
}

// P15.1, P15.2: of random programs.
func TestRandomPrograms(t *testing.T) {
	t.Parallel()
	ends, spare, simpler := map[int]int{}, map[int]int{}, 0
	for seed := range 2000 {
		p := made(seed, []int{0, 0, 20, 60}[seed%4])
		if !lam.May(p) {
			t.Fatalf("seed %d: %s may not be", seed, shown(p.Body))
		}
		if w := differs(p, linesOf(seed), fuelsOf(seed)...); w != "" {
			t.Fatalf("seed %d: %v: %s", seed, p.Body, w)
		}
		ends[lam.Run(p, linesOf(seed), 3000).Kind]++
		spareKinds(p, spare)
		if q, _ := simp.Of(p); nodes(q.Body) < nodes(p.Body) {
			simpler++
		}
	}
	if ends[lam.Ended] < 400 || ends[lam.Uncaught] < 120 || ends[lam.OutOfFuel] < 8 || ends[lam.Wrong] < 80 || simpler < 1000 {
		t.Errorf("only %v, %d", ends, simpler)
	}
	for _, kind := range []int{api.LLet, api.LSeq, api.LIf, api.LSwitch, api.LOp, api.LCatch} {
		if spare[kind] < 20 {
			t.Errorf("only %v", spare)
		}
	}
}

// P15.1, P15.2: of programs with spare nodes within spare nodes; they become what the programs without these become.
func TestSpoiledPrograms(t *testing.T) {
	t.Parallel()
	spare := map[int]int{}
	for seed := range 1500 {
		p := newMaker(int64(seed), []int{0, 0, 20}[seed%3], 10+seed%50).program()
		s := &spoiler{r: rand.New(rand.NewSource(int64(seed))), often: []int{3, 10, 25, 40}[seed%4]}
		q := program(s.spoiled(p.Body, scope{}))
		if nodes(q.Body) > 6000 {
			continue
		}
		if !lam.May(q) {
			t.Fatalf("seed %d: %v may not be", seed, q.Body)
		}
		a, _ := simp.Of(p)
		if b, e := simp.Of(q); e != api.OK || !reflect.DeepEqual(a, b) {
			t.Fatalf("seed %d: %v: %d: got %v, want %v", seed, q.Body, e, b.Body, a.Body)
		}
		if w := differs(q, linesOf(seed), fuelsOf(seed)...); w != "" {
			t.Fatalf("seed %d: %v: %s", seed, q.Body, w)
		}
		spareKinds(q, spare)
	}
	for _, kind := range []int{api.LLet, api.LSeq, api.LIf, api.LSwitch, api.LOp, api.LCatch} {
		if spare[kind] < 2000 {
			t.Errorf("only %v", spare)
		}
	}
}
