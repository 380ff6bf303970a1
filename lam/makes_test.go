package lam_test

import (
	"math/rand"
	"reflect"
	"strings"
	"testing"

	"grapnel/api"
	"grapnel/lam"
)

func linesOf(seed int) []string { return []string{"1", "abc", "", "-7"}[:seed%5] }

// made tells a program that is made up.
func made(seed, wild int) api.Lams { return newMaker(int64(seed), wild, 20+seed%90).program() }

// P13.1: a run is what a plain one is, at all fuels.
func TestAsPlainly(t *testing.T) {
	ends, kinds := map[int]int{}, map[int]int{}
	for seed := range 5000 {
		p := made(seed, []int{0, 0, 20, 60}[seed%4])
		if !lam.May(p) {
			t.Fatalf("seed %d: %s may not be", seed, shown(p.Body))
		}
		r := rand.New(rand.NewSource(int64(seed)))
		fuels := []int64{5000, int64(r.Intn(20)), int64(r.Intn(100)), int64(r.Intn(400)), int64(r.Intn(2000))}
		for _, fuel := range fuels {
			want, ok := plainly(p, linesOf(seed), fuel)
			got := lam.Run(p, linesOf(seed), fuel)
			if got != want || !ok {
				t.Fatalf("seed %d, fuel %d: %v: got %+v, want %+v", seed, fuel, p.Body, got, want)
			}
			if fuel == fuels[0] {
				ends[got.Kind]++
			}
		}
		for _, c := range listed(&p.Body) {
			kinds[c.Kind]++
		}
	}
	if ends[lam.Ended] < 1000 || ends[lam.Uncaught] < 300 || ends[lam.OutOfFuel] < 30 || ends[lam.Wrong] < 300 {
		t.Errorf("only %v", ends)
	}
	for kind := api.LInt; kind <= api.LRaise; kind++ {
		if kinds[kind] < 500 {
			t.Errorf("only %v", kinds)
		}
	}
}

// P13.2: with more fuel a run that was at its end is the same; one that was out of fuel had written, and read, a beginning.
func TestMoreFuel(t *testing.T) {
	for seed := range 300 {
		p := made(seed, 20*(seed%2))
		last := lam.Ending{Kind: lam.OutOfFuel}
		for fuel := int64(0); fuel < 300; fuel++ {
			got := lam.Run(p, linesOf(seed), fuel)
			if last.Kind != lam.OutOfFuel && got != last {
				t.Fatalf("seed %d, fuel %d: %+v, then %+v", seed, fuel, last, got)
			}
			if !strings.HasPrefix(got.Out, last.Out) || got.Read < last.Read {
				t.Fatalf("seed %d, fuel %d: %+v, then %+v", seed, fuel, last, got)
			}
			if got.Kind == lam.OutOfFuel && (got.Code != 0 || got.Exn != "") {
				t.Fatalf("seed %d, fuel %d: %+v", seed, fuel, got)
			}
			last = got
		}
		if got := lam.Run(p, linesOf(seed), 5000); last.Kind != lam.OutOfFuel && got != last {
			t.Fatalf("seed %d: %+v, then %+v", seed, last, got)
		}
	}
}

// Lines that weren't read change nothing; nor do they, if there are none.
func TestUnreadLines(t *testing.T) {
	read := 0
	for seed := range 1000 {
		p := made(seed, 0)
		lines := []string{"1", "abc", "", "-7", "0", "5", "6", "7"}
		got := lam.Run(p, lines, 3000)
		read += got.Read
		for i := got.Read; i < len(lines); i++ {
			lines[i] = "other"
		}
		if again := lam.Run(p, lines, 3000); again != got {
			t.Fatalf("seed %d: %+v, then %+v", seed, got, again)
		}
	}
	if read < 300 {
		t.Errorf("only %d", read)
	}
}

// R3, R4, R5: the same calls tell the same, and change nothing that they are handed.
func TestTheSameAgain(t *testing.T) {
	for seed := range 300 {
		p, lines := made(seed, 20*(seed%2)), linesOf(seed)
		got, is := lam.Run(p, lines, 2000), lam.May(p)
		if !reflect.DeepEqual(p, made(seed, 20*(seed%2))) || !reflect.DeepEqual(lines, linesOf(seed)) {
			t.Fatalf("seed %d: changed", seed)
		}
		if again := lam.Run(p, lines, 2000); again != got || lam.May(p) != is {
			t.Fatalf("seed %d: %+v, then %+v", seed, got, again)
		}
	}
}
