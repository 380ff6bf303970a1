package model_test

import (
	"math/rand"
	"reflect"
	"strings"
	"testing"

	"grapnel/api"
	"grapnel/core"
	"grapnel/infer"
	"grapnel/model"
	"grapnel/parse"
)

// made tells a program that is made up; false: it is too great, or no program.
func made(t *testing.T, seed, wild int) (string, api.Decls, api.Core, bool) {
	t.Helper()
	s := newMaker(int64(seed), wild, 30+seed%80).program()
	n, e, at := parse.Parse(s)
	if e == api.ErrBytes || e == api.ErrDeep || e == api.ErrMany {
		return s, api.Decls{}, api.Core{}, false
	}
	if e != api.OK {
		t.Fatalf("%s: parse tells %d at %d", s, e, at)
	}
	d, c, e, at := core.Resolve(n)
	if e != api.OK && wild == 0 {
		t.Fatalf("%s: core tells %d at %d", s, e, at)
	}
	return s, d, c, e == api.OK
}

func linesOf(seed int) []string { return []string{"1", "abc", "", "-7"}[:seed%5] }

// P12.1: a run is what a plain one is, at all fuels.
func TestAsPlainly(t *testing.T) {
	seen := map[int]int{}
	for seed := range 6000 {
		s, d, c, ok := made(t, seed, []int{0, 0, 20, 60}[seed%4])
		if !ok {
			continue
		}
		r := rand.New(rand.NewSource(int64(seed)))
		fuels := []int64{5000, int64(r.Intn(20)), int64(r.Intn(100)), int64(r.Intn(400)), int64(r.Intn(2000))}
		for _, fuel := range fuels {
			want := plainly(d, c, linesOf(seed), fuel)
			got := model.Run(d, c, linesOf(seed), fuel)
			if got != want {
				t.Fatalf("seed %d, fuel %d: %s: got %+v, want %+v", seed, fuel, s, got, want)
			}
			if fuel == fuels[0] {
				seen[got.Kind]++
			}
		}
	}
	if seen[model.Ended] < 1000 || seen[model.Uncaught] < 300 || seen[model.OutOfFuel] < 30 || seen[model.Wrong] < 100 {
		t.Errorf("only %v", seen)
	}
}

// P12.2: at each fuel, from none on, a run that was at its end is the same; one that was out of fuel has written and read a beginning.
func TestMoreFuel(t *testing.T) {
	for seed := range 500 {
		s, d, c, ok := made(t, seed, 30*(seed%2))
		if !ok {
			continue
		}
		last := model.Ending{Kind: model.OutOfFuel}
		for fuel := int64(0); fuel < 300; fuel++ {
			got := model.Run(d, c, linesOf(seed), fuel)
			if last.Kind != model.OutOfFuel && got != last {
				t.Fatalf("seed %d, fuel %d: %s: %+v, then %+v", seed, fuel, s, last, got)
			}
			if !strings.HasPrefix(got.Out, last.Out) || got.Read < last.Read {
				t.Fatalf("seed %d, fuel %d: %s: %+v, then %+v", seed, fuel, s, last, got)
			}
			if got.Kind == model.OutOfFuel && (got.Code != 0 || got.Exn != "") {
				t.Fatalf("seed %d, fuel %d: %s: %+v", seed, fuel, s, got)
			}
			last = got
		}
		if got := model.Run(d, c, linesOf(seed), 5000); last.Kind != model.OutOfFuel && got != last {
			t.Fatalf("seed %d: %s: %+v, then %+v", seed, s, last, got)
		}
	}
}

// P12.2: what has a type is never Wrong; what is Wrong has none.
func TestTypedIsNeverWrong(t *testing.T) {
	typed, untyped := 0, 0
	for seed := range 6000 {
		wild := []int{0, 10, 40}[seed%3]
		s, d, c, ok := made(t, seed, wild)
		if !ok {
			continue
		}
		_, e, at := infer.Infer(d, c)
		if wild == 0 && e != api.OK {
			t.Fatalf("seed %d: %s: infer tells %d at %d", seed, s, e, at)
		}
		got := model.Run(d, c, linesOf(seed), 3000)
		switch {
		case e == api.OK && got.Kind == model.Wrong:
			t.Fatalf("seed %d: %s: got %+v", seed, s, got)
		case e == api.OK:
			typed++
		case got.Kind == model.Wrong:
			untyped++
		}
	}
	if typed < 2000 || untyped < 200 {
		t.Errorf("only %d and %d", typed, untyped)
	}
}

// P12.2: lines that weren't read change nothing; nor do they, if there are none.
func TestUnreadLines(t *testing.T) {
	read := 0
	for seed := range 2000 {
		s, d, c, ok := made(t, seed, 0)
		if !ok {
			continue
		}
		lines := []string{"1", "abc", "", "-7", "0", "5", "6", "7"}
		got := model.Run(d, c, lines, 3000)
		read += got.Read
		for i := got.Read; i < len(lines); i++ {
			lines[i] = "other"
		}
		if again := model.Run(d, c, lines, 3000); again != got {
			t.Fatalf("seed %d: %s: %+v, then %+v", seed, s, got, again)
		}
		if fewer := model.Run(d, c, lines[:got.Read], 3000); fewer != got && got.Read < len(lines) {
			t.Fatalf("seed %d: %s: %+v, then %+v", seed, s, got, fewer)
		}
	}
	if read < 300 {
		t.Errorf("only %d", read)
	}
}

// R3, R4, R5: the same runs tell the same, and change nothing that they are handed.
func TestTheSameAgain(t *testing.T) {
	for seed := range 300 {
		s, d, c, ok := made(t, seed, 20*(seed%2))
		if !ok {
			continue
		}
		lines := linesOf(seed)
		got := model.Run(d, c, lines, 2000)
		_, d2, c2, _ := made(t, seed, 20*(seed%2))
		if !reflect.DeepEqual(d, d2) || !reflect.DeepEqual(c, c2) || !reflect.DeepEqual(lines, linesOf(seed)) {
			t.Fatalf("seed %d: %s: changed", seed, s)
		}
		if again := model.Run(d, c, lines, 2000); again != got {
			t.Fatalf("seed %d: %s: %+v, then %+v", seed, s, got, again)
		}
	}
}

// R1: of cores that are nearly such as Resolve tells a run ends without a panic.
func TestChangedCores(t *testing.T) {
	seen := map[int]int{}
	for seed := range 3000 {
		_, d, c, ok := made(t, seed, 0)
		if ok {
			got := model.Run(d, changed(rand.New(rand.NewSource(int64(seed))), c), linesOf(seed), 3000)
			seen[got.Kind]++
		}
	}
	if seen[model.Ended] < 20 || seen[model.Wrong] < 300 {
		t.Errorf("only %v", seen)
	}
}
