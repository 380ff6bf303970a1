package parse_test

import (
	"math"
	"math/rand"
	"testing"

	"grapnel/api"
	"grapnel/parse"
)

type stands struct{ at, deep int }

// flat tells all nodes, each ahead of its parts: their places, and how deep they are.
func flat(n api.Node, deep int, all []stands) []stands {
	all = append(all, stands{n.At, deep})
	for _, x := range n.L {
		all = flat(x, deep+1, all)
	}
	return all
}

// wantWalk holds Deep and Count against a list of all nodes.
func wantWalk(t *testing.T, n api.Node, most int) {
	t.Helper()
	all := flat(n, 1, nil)
	place, is := 0, false
	for _, x := range all {
		if x.deep > most {
			place, is = x.at, true
			break
		}
	}
	if at, deep := parse.Deep(n, most); at != place || deep != is {
		t.Errorf("Deep(%s, %d) = %d, %v, want %d, %v", told(n, 0), most, at, deep, place, is)
	}
	want := len(all)
	if most < want {
		want = max(0, most+1)
	}
	if got := parse.Count(n, most); got != want {
		t.Errorf("Count(%s, %d) = %d, want %d", told(n, 0), most, got, want)
	}
}

func bounds(size int) []int {
	all := []int{math.MinInt, math.MinInt + 1, -2, math.MaxInt - 1, math.MaxInt}
	for most := -1; most < size+3; most++ {
		all = append(all, most)
	}
	return all
}

// P8.2

func TestDeepAndCount(t *testing.T) {
	n := api.Node{Kind: api.Program, At: 5, L: []api.Node{{At: 6, L: []api.Node{{At: 7}}}, {At: 8, L: []api.Node{{At: 9, L: []api.Node{{At: 10}}}}}}}
	for most, want := range map[int]stands{math.MinInt: {5, 1}, -1: {5, 1}, 0: {5, 1}, 1: {6, 1}, 2: {7, 1}, 3: {10, 1}, 4: {0, 0}, 5: {0, 0}, math.MaxInt: {0, 0}} {
		if at, is := parse.Deep(n, most); at != want.at || is != (want.deep == 1) {
			t.Errorf("Deep(%d) = %d, %v", most, at, is)
		}
	}
	for most, want := range map[int]int{math.MinInt: 0, -2: 0, -1: 0, 0: 1, 1: 2, 2: 3, 4: 5, 5: 6, 6: 6, 7: 6, math.MaxInt: 6} {
		if got := parse.Count(n, most); got != want {
			t.Errorf("Count(%d) = %d, want %d", most, got, want)
		}
	}
	wantWalk(t, api.Node{}, 1)
	if at, is := parse.Deep(api.Node{}, 0); at != 0 || !is {
		t.Errorf("%d, %v", at, is)
	}
}

// anyTree makes up a tree of any kinds and places, and tells how many more nodes there may be.
func anyTree(r *rand.Rand, more int) (api.Node, int) {
	n := api.Node{Kind: r.Intn(300) - 20, At: r.Intn(200) - 50, N: r.Int63(), S: "s"}
	for more > 0 && r.Intn(3) > 0 {
		var x api.Node
		x, more = anyTree(r, more-1)
		n.L = append(n.L, x)
	}
	return n, more
}

func TestAnyTreeWithAnyBound(t *testing.T) {
	for seed := range int64(400) {
		n, _ := anyTree(rand.New(rand.NewSource(seed)), int(seed)/4)
		size := len(flat(n, 1, nil))
		before := told(n, 0)
		for _, most := range bounds(size) {
			wantWalk(t, n, most)
		}
		if told(n, 0) != before {
			t.Fatal("the tree has changed")
		}
	}
}

func TestVeryDeepAndVeryBroad(t *testing.T) {
	n := api.Node{At: 1}
	for range 60000 {
		n = api.Node{At: n.At + 1, L: []api.Node{n}}
	}
	for _, most := range []int{0, 1, 59999, 60000} {
		if at, is := parse.Deep(n, most); at != 60001-most || !is {
			t.Errorf("Deep(%d) = %d, %v", most, at, is)
		}
		if got := parse.Count(n, most); got != most+1 {
			t.Errorf("Count(%d) = %d", most, got)
		}
	}
	if at, is := parse.Deep(n, 60001); at != 0 || is {
		t.Errorf("%d, %v", at, is)
	}
	broad := api.Node{L: make([]api.Node, 1<<20)}
	if got := parse.Count(broad, math.MaxInt); got != 1<<20+1 {
		t.Errorf("%d", got)
	}
	if at, is := parse.Deep(broad, 2); at != 0 || is {
		t.Errorf("%d, %v", at, is)
	}
}

// With 2^60 nodes Count ends only if it stops in time.
func TestCountStopsInTime(t *testing.T) {
	n := api.Node{}
	for range 60 {
		n = api.Node{L: []api.Node{n, n}}
	}
	for _, most := range []int{0, 1, 59, 60, 61, 1000, 100000} {
		if got := parse.Count(n, most); got != most+1 {
			t.Errorf("Count(%d) = %d", most, got)
		}
	}
}
