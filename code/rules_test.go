package code_test

import (
	"math/rand"
	"reflect"
	"slices"
	"testing"

	"grapnel/api"
	"grapnel/code"
)

// R3, R4, R5: the same calls answer the same, and change nothing that they are handed.
func TestTheSameAgain(t *testing.T) {
	for seed := range 300 {
		i := made(seed, 20)
		if seed%3 == 0 {
			i = spoiled(rand.New(rand.NewSource(int64(seed))), i)
		}
		was := copied(i)
		is := code.May(i)
		b, e := code.Encode(i)
		before := slices.Clone(b)
		j, f := code.Decode(b)
		if !reflect.DeepEqual(i, was) || !slices.Equal(b, before) {
			t.Fatalf("seed %d: changed", seed)
		}
		b2, e2 := code.Encode(i)
		j2, f2 := code.Decode(before)
		if code.May(i) != is || !slices.Equal(b, b2) || e != e2 || f != f2 || !reflect.DeepEqual(j, j2) {
			t.Fatalf("seed %d: another answer", seed)
		}
	}
}

// copied tells an image that shares nothing.
func copied(i api.Image) api.Image {
	i.Exns, i.Texts, i.Code = slices.Clone(i.Exns), slices.Clone(i.Texts), slices.Clone(i.Code)
	for k := range i.Code {
		x := &i.Code[k]
		x.Ns, x.Ts, x.L = slices.Clone(x.Ns), slices.Clone(x.Ts), slices.Clone(x.L)
	}
	return i
}

// spoil writes over all of a list, also behind its end.
func spoil[T any](l []T) {
	clear(l[:cap(l)])
}

// R3: who has an answer may change it: what was handed, and what else was answered, stays.
func TestAnswersAreNew(t *testing.T) {
	for seed := range 300 {
		i := made(seed, 20)
		was := copied(i)
		b, _ := code.Encode(i)
		bytes := slices.Clone(b)
		j, _ := code.Decode(b)
		again, _ := code.Decode(b)
		spoil(b)
		if !same(j, was) || !same(i, was) {
			t.Fatalf("seed %d: what was answered changes with the bytes", seed)
		}
		for k := range j.Code { // each list by itself: the others stay
			x := &j.Code[k]
			spoil(x.Ns)
			if !slices.Equal(x.Ts, was.Code[k].Ts) || !slices.Equal(x.L, was.Code[k].L) {
				t.Fatalf("seed %d: lists are shared", seed)
			}
			spoil(x.Ts)
			if !slices.Equal(x.L, was.Code[k].L) || k+1 < len(j.Code) && !reflect.DeepEqual(j.Code[k+1], again.Code[k+1]) {
				t.Fatalf("seed %d: lists are shared", seed)
			}
			spoil(x.L)
		}
		spoil(j.Code)
		spoil(j.Exns)
		spoil(j.Texts)
		if c, e := code.Encode(again); e != api.OK || !slices.Equal(c, bytes) || !same(i, was) {
			t.Fatalf("seed %d: answers are shared", seed)
		}
	}
}

// R1: whatever is handed, there is an answer.
func TestAnyImage(t *testing.T) {
	r := rand.New(rand.NewSource(3))
	any := func() int64 { return pick(r, pick(r, numbers()...), int64(r.Intn(4)), int64(r.Uint64())) }
	list := func() (l []int64) {
		for r.Intn(3) > 0 {
			l = append(l, any())
		}
		return l
	}
	for range 20000 {
		i := api.Image{Exns: built()[:pick(r, 6, 6, 6, r.Intn(7))]}
		for range r.Intn(5) {
			x := api.Ins{Op: pick(r, int(any()), r.Intn(32), r.Intn(32)), A: pick(r, any(), 0), B: pick(r, any(), 0)}
			if r.Intn(3) == 0 {
				x.Ns, x.Ts = list(), list()
			}
			for _, n := range list() {
				x.L = append(x.L, int(n))
			}
			i.Code = append(i.Code, x)
		}
		may(t, "any", i, plainMay(i))
	}
}
