package copier_test

import (
	"math"
	"math/rand"
	"slices"
	"testing"

	"grapnel/api"
	"grapnel/arena"
	"grapnel/copier"
	"grapnel/word"
)

// block lays a block that has to fit, with these fields.
func block(t *testing.T, a *arena.Arena, tag int, fields ...api.Word) api.Word {
	t.Helper()
	w, e := a.Alloc(tag, len(fields))
	if e != api.OK {
		t.Fatalf("Alloc(%d, %d): error %d", tag, len(fields), e)
	}
	for i, x := range fields {
		put(t, a, w, i, x)
	}
	return w
}

// put puts a word where there has to be a field.
func put(t *testing.T, a *arena.Arena, w api.Word, i int, x api.Word) {
	t.Helper()
	if e := a.Set(w, i, x); e != api.OK {
		t.Fatalf("Set(%d, %d, %d): error %d", w, i, x, e)
	}
}

func fieldsOf(a *arena.Arena, w api.Word) []api.Word {
	var all []api.Word
	for i := range a.Size(w) {
		x, _ := a.Get(w, i)
		all = append(all, x)
	}
	return all
}

func wantBlock(t *testing.T, a *arena.Arena, w api.Word, tag int, fields ...api.Word) {
	t.Helper()
	if b, d := a.Leads(w); b != w || d != 0 {
		t.Errorf("%d leads to %d, %d, want a block there", w, b, d)
	}
	if got := fieldsOf(a, w); a.Tag(w) != tag || !slices.Equal(got, fields) {
		t.Errorf("block %d: tag %d, fields %v, want %d, %v", w, a.Tag(w), got, tag, fields)
	}
}

func wantPlaces(t *testing.T, a *arena.Arena, base, top int, blocks ...api.Word) {
	t.Helper()
	if a.Base() != base || a.Top() != top {
		t.Errorf("Base, Top = %d, %d, want %d, %d", a.Base(), a.Top(), base, top)
	}
	if !slices.Equal(a.Blocks(), blocks) {
		t.Errorf("Blocks = %v, want %v", a.Blocks(), blocks)
	}
}

func wantCollect(t *testing.T, a *arena.Arena, roots []api.Word, want ...api.Word) {
	t.Helper()
	if got := copier.Collect(a, roots); !slices.Equal(got, want) {
		t.Errorf("Collect(%v) = %v, want %v", roots, got, want)
	}
}

func wantReach(t *testing.T, a *arena.Arena, roots []api.Word, cells int, blocks ...api.Word) {
	t.Helper()
	if n, got := copier.Reach(a, roots); n != cells || !slices.Equal(got, blocks) {
		t.Errorf("Reach(%v) = %d, %v, want %d, %v", roots, n, got, cells, blocks)
	}
}

func words(all ...api.Word) []api.Word { return all }

// The examples

// example lays the chapter's: 2 leads to 8 and to itself, 8 has the number 7, 12 is alone.
func example(t *testing.T) *arena.Arena {
	t.Helper()
	a := arena.New(20)
	block(t, a, 1, 8, 2)
	block(t, a, 2, word.Int(7))
	block(t, a, 0)
	wantPlaces(t, a, 0, 6, 2, 8, 12)
	return a
}

func TestExamples(t *testing.T) {
	a := example(t)
	wantReach(t, a, words(2), 5, 2, 8)
	wantCollect(t, a, words(3, 8, 2), 3, 42, 46)
	wantPlaces(t, a, 20, 25, 42, 46)
	wantBlock(t, a, 42, 2, word.Int(7))
	wantBlock(t, a, 46, 1, 42, 46)
}

func TestExampleOfTheBlockAlone(t *testing.T) {
	a := example(t)
	wantCollect(t, a, words(12), 42)
	wantPlaces(t, a, 20, 21, 42)
	wantBlock(t, a, 42, 0)
	wantReach(t, a, words(42), 1, 42)
	wantReach(t, a, words(12), 0)
	wantCollect(t, a, words(42), 2)
	wantPlaces(t, a, 0, 1, 2)
}

// P3.1

func TestRootsAreLaidOneBehindTheOther(t *testing.T) {
	a := arena.New(20)
	x, y, z := block(t, a, 1), block(t, a, 2, 1), block(t, a, 3, 1, 1)
	wantCollect(t, a, words(y, z, x), 42, 46, 52)
	wantPlaces(t, a, 20, 26, 42, 46, 52)
	wantBlock(t, a, 42, 2, 1)
	wantBlock(t, a, 46, 3, 1, 1)
	wantBlock(t, a, 52, 1)
}

// All that the roots lead to is laid ahead of what is behind it, and each row ahead of the next one.
func TestTheNearestAreLaidFirst(t *testing.T) {
	a := arena.New(40)
	far := block(t, a, 30)
	left := block(t, a, 21, far)
	right := block(t, a, 22, word.Int(5))
	third := block(t, a, 23)
	one := block(t, a, 11, left, right)
	two := block(t, a, 12, third, left)
	wantReach(t, a, words(one, two), 12, one, two, left, right, third, far)
	wantCollect(t, a, words(one, two), 82, 88)
	wantPlaces(t, a, 40, 52, 82, 88, 94, 98, 102, 104)
	wantBlock(t, a, 82, 11, 94, 98)
	wantBlock(t, a, 88, 12, 102, 94)
	wantBlock(t, a, 94, 21, 104)
	wantBlock(t, a, 98, 22, word.Int(5))
	wantBlock(t, a, 102, 23)
	wantBlock(t, a, 104, 30)
}

func TestFieldsAreGoneThroughFromTheFirst(t *testing.T) {
	a := arena.New(30)
	x, y, z := block(t, a, 1), block(t, a, 2), block(t, a, 3)
	w := block(t, a, 9, z, x, word.Int(1), y, x)
	wantCollect(t, a, words(w), 62)
	wantBlock(t, a, 62, 9, 74, 76, word.Int(1), 78, 76)
	for i, tag := range []int{3, 1, 2} {
		wantBlock(t, a, 74+2*api.Word(i), tag)
	}
}

func TestABlockIsLaidOnceHoweverManyLeadThere(t *testing.T) {
	a := arena.New(30)
	x := block(t, a, 1, word.Int(4))
	y := block(t, a, 2, x, x)
	wantCollect(t, a, words(x, y, x, y, y), 62, 66, 62, 66, 66)
	wantPlaces(t, a, 30, 35, 62, 66)
	wantBlock(t, a, 62, 1, word.Int(4))
	wantBlock(t, a, 66, 2, 62, 62)
}

// strangers are words that lead to nothing in an arena whose blocks lie below the cell top, ahead of the cell half.
func strangers(top, half int) []api.Word {
	all := []api.Word{
		0, 1, 3, word.Int(7), word.Int(-1), word.Int(math.MaxInt64), word.Head(3, 2), word.Head(api.TagInner, 1),
		1 << 31, 1<<32 - 2, 1 << 32, 1<<33 + 2, 1<<63 + 2, math.MaxUint64, math.MaxUint64 - 1,
	}
	for cell := top + 1; cell < 2*half+4; cell++ {
		all = append(all, word.Ptr(cell))
	}
	return all
}

func TestRootsThatLeadToNothingStay(t *testing.T) {
	a := arena.New(12)
	w := block(t, a, 4, word.Int(6), word.Int(8), 0)
	v := block(t, a, 5)
	roots := append(strangers(a.Top(), 12), w-2, w+1, w+2, w+4, w+6, w-1)
	wantReach(t, a, roots, 0)
	now := copier.Collect(a, append(slices.Clone(roots), v))
	if !slices.Equal(now[:len(roots)], roots) || now[len(roots)] != 26 {
		t.Errorf("Collect(%v) = %v", roots, now)
	}
	wantPlaces(t, a, 12, 13, 26)
}

func TestFieldsThatLeadToNothingStay(t *testing.T) {
	a := arena.New(100)
	fields := strangers(90, 100)[:60]
	w := block(t, a, 4, fields...)
	wantCollect(t, a, words(w), 202)
	wantBlock(t, a, 202, 4, fields...)
}

// A word that led to nothing stays, though something lies there now, and it keeps nothing.
func TestWhatLeadsToNothingStaysEvenIfSomethingComesToLieThere(t *testing.T) {
	a := example(t)
	wantReach(t, a, words(42), 0)
	wantCollect(t, a, words(42, 12, 42), 42, 42, 42)
	wantPlaces(t, a, 20, 21, 42)

	a = example(t)
	put(t, a, 8, 0, 42)
	wantReach(t, a, words(2, 42), 5, 2, 8)
	wantCollect(t, a, words(2), 42)
	wantBlock(t, a, 42, 1, 48, 42)
	wantBlock(t, a, 48, 2, 42)
}

// What is in the half that isn't current is no block, whatever stands in its cells.
func TestWhatWasAheadOfTheLastCollectionIsNoBlock(t *testing.T) {
	a := example(t)
	copier.Collect(a, words(2))
	wantReach(t, a, words(2, 8, 12), 0)
	wantCollect(t, a, words(2, 42, 8, 12), 2, 2, 8, 12)
	wantPlaces(t, a, 0, 5, 2, 8)
}

func TestCollectWithoutRootsClearsAll(t *testing.T) {
	for _, roots := range [][]api.Word{nil, {}, {0}, {7, 9}} {
		a := example(t)
		wantCollect(t, a, roots, roots...)
		wantPlaces(t, a, 20, 20)
		wantCollect(t, a, roots, roots...)
		wantPlaces(t, a, 0, 0)
	}
}

func TestCollectOfAnArenaWithoutBlocks(t *testing.T) {
	a := arena.New(2)
	wantReach(t, a, words(2, 0, 1), 0)
	wantCollect(t, a, words(2, 0, 1), 2, 0, 1)
	wantPlaces(t, a, 2, 2)
}

func TestInnerSlotsKeepTheirDistance(t *testing.T) {
	a := arena.New(40)
	block(t, a, 0, 1, 1)
	w := block(t, a, api.TagClosure, 1, word.Head(api.TagInner, 2), 1, word.Head(api.TagInner, 4), 1, 1, 1)
	put(t, a, w, 5, w+4)
	put(t, a, w, 6, w+8)
	user := block(t, a, 7, w+8, w, w+4)
	wantReach(t, a, words(user), 12, user, w)
	wantCollect(t, a, words(w+4, user, w, w+8), 86, 98, 82, 90)
	wantPlaces(t, a, 40, 52, 82, 98)
	wantBlock(t, a, 82, api.TagClosure, 1, word.Head(api.TagInner, 2), 1, word.Head(api.TagInner, 4), 1, 86, 90)
	wantBlock(t, a, 98, 7, 90, 82, 86)
	for inner, distance := range map[api.Word]int{86: 2, 90: 4} {
		if b, d := a.Leads(inner); b != 82 || d != distance {
			t.Errorf("%d leads to %d, %d", inner, b, d)
		}
	}
}

// A word to an inner slot alone brings the whole block, and what its other fields lead to.
func TestAnInnerSlotBringsItsWholeBlock(t *testing.T) {
	a := arena.New(20)
	x := block(t, a, 3, word.Int(9))
	w := block(t, a, api.TagClosure, x, word.Head(api.TagInner, 2), 1, x)
	wantReach(t, a, words(w+4), 7, w, x)
	wantCollect(t, a, words(w+4), 46)
	wantBlock(t, a, 42, api.TagClosure, 52, word.Head(api.TagInner, 2), 1, 52)
	wantBlock(t, a, 52, 3, word.Int(9))
}

// Words that only look as if they led to an inner slot stay.
func TestWhatIsNoInnerSlotStays(t *testing.T) {
	a := arena.New(60)
	head := word.Head(api.TagInner, 2)
	closure := block(t, a, api.TagClosure, 1, head, 1, 1)
	other := block(t, a, 5, 1, head, 1)
	last := block(t, a, api.TagClosure, 1, head)
	wrong := block(t, a, api.TagClosure, 1, word.Head(api.TagInner, 1), 1)
	roots := words(closure+2, closure+6, other+4, last+4, wrong+4)
	wantReach(t, a, roots, 0)
	wantCollect(t, a, roots, roots...)
	wantPlaces(t, a, 60, 60)
}

func TestFieldsOfATextDoNotMove(t *testing.T) {
	a := arena.New(30)
	x := block(t, a, 1, word.Int(3))
	kept := block(t, a, 2)
	s := block(t, a, api.TagText, x, kept, 0, math.MaxUint64)
	u := block(t, a, 8, s, kept)
	wantReach(t, a, words(s), 5, s)
	wantReach(t, a, words(u), 9, u, s, kept)
	wantCollect(t, a, words(u, s), 62, 68)
	wantPlaces(t, a, 30, 39, 62, 68, 78)
	wantBlock(t, a, 62, 8, 68, 78)
	wantBlock(t, a, 68, api.TagText, x, kept, 0, math.MaxUint64)
	wantBlock(t, a, 78, 2)
}

func TestFieldsOfAllOtherTagsMove(t *testing.T) {
	for tag := 0; tag <= api.TagClosure; tag++ {
		a := arena.New(10)
		x := block(t, a, 7)
		w := block(t, a, tag, x)
		wantReach(t, a, words(w), 3, w, x)
		wantCollect(t, a, words(w), 22)
		wantBlock(t, a, 22, tag, 26)
		wantBlock(t, a, 26, 7)
	}
}

func TestCircles(t *testing.T) {
	a := arena.New(40)
	self := block(t, a, 1, 1)
	put(t, a, self, 0, self)
	x := block(t, a, 2, 1, 1)
	y := block(t, a, 3, x)
	z := block(t, a, 4, y, self)
	put(t, a, x, 0, z)
	put(t, a, x, 1, y)
	block(t, a, 5, self) // nobody leads there
	wantReach(t, a, words(self), 2, self)
	wantReach(t, a, words(y), 10, y, x, z, self)
	wantCollect(t, a, words(y), 82)
	wantPlaces(t, a, 40, 50, 82, 86, 92, 98)
	wantBlock(t, a, 82, 3, 86)
	wantBlock(t, a, 86, 2, 92, 82)
	wantBlock(t, a, 92, 4, 82, 98)
	wantBlock(t, a, 98, 1, 98)
}

func TestCirclesOutOfReachGo(t *testing.T) {
	a := arena.New(20)
	x := block(t, a, 1, 1)
	y := block(t, a, 2, x)
	put(t, a, x, 0, y)
	kept := block(t, a, 3, word.Int(1))
	wantCollect(t, a, words(kept), 42)
	wantPlaces(t, a, 20, 22, 42)
}

func TestAFullHalfFitsIntoTheOtherOne(t *testing.T) {
	a := arena.New(9)
	x, y, last := block(t, a, 1, 1, 1), block(t, a, 2, 1, 1, 1, 1), block(t, a, 6)
	put(t, a, x, 1, last)
	put(t, a, y, 3, x)
	wantReach(t, a, words(y), 9, y, x, last)
	wantCollect(t, a, words(y), 20)
	wantPlaces(t, a, 9, 18, 20, 30, 36)
	wantBlock(t, a, 20, 2, 1, 1, 1, 30)
	wantBlock(t, a, 30, 1, 1, 36)
	wantBlock(t, a, 36, 6)
	wantCollect(t, a, words(36, 30, 20), 2, 4, 10)
	wantPlaces(t, a, 0, 9, 2, 4, 10)
}

func TestALongListOfAllCells(t *testing.T) {
	a := arena.New(api.MaxSemi)
	list := word.Int(0)
	for range api.MaxSemi / 2 {
		list = block(t, a, 1, list)
	}
	if n, all := copier.Reach(a, words(list)); n != api.MaxSemi || len(all) != api.MaxSemi/2 || all[0] != list {
		t.Errorf("Reach: %d cells, %d blocks", n, len(all))
	}
	w := copier.Collect(a, words(list))[0]
	for i := range api.MaxSemi / 2 {
		if want := word.Ptr(api.MaxSemi + 2*i + 1); w != want || a.Tag(w) != 1 || a.Size(w) != 1 {
			t.Fatalf("block %d is %d, want %d", i, w, want)
		}
		w, _ = a.Get(w, 0)
	}
	if w != word.Int(0) {
		t.Errorf("at the end is %d", w)
	}
}

func TestTheGreatestBlocks(t *testing.T) {
	a := arena.New(api.MaxSemi)
	w := block(t, a, 1, make([]api.Word, api.MaxSize)...)
	v := block(t, a, api.TagText, make([]api.Word, api.MaxSize)...)
	put(t, a, w, api.MaxSize-1, v)
	put(t, a, v, api.MaxSize-1, w)
	wantCollect(t, a, words(0, w), 0, word.Ptr(api.MaxSemi+1))
	moved := word.Ptr(api.MaxSemi + 1 + api.MaxSize + 1)
	if x, _ := a.Get(word.Ptr(api.MaxSemi+1), api.MaxSize-1); x != moved {
		t.Errorf("the last field is %d, want %d", x, moved)
	}
	if x, _ := a.Get(moved, api.MaxSize-1); x != w {
		t.Errorf("the text's last field is %d, want %d", x, w)
	}
}

func TestTwoCollectionsComeBackToTheLowerHalf(t *testing.T) {
	a := example(t)
	roots := copier.Collect(a, words(12, 2))
	wantPlaces(t, a, 20, 26, 42, 44, 50)
	wantCollect(t, a, roots, 2, 4)
	wantPlaces(t, a, 0, 6, 2, 4, 10)
	wantBlock(t, a, 2, 0)
	wantBlock(t, a, 4, 1, 10, 4)
	wantBlock(t, a, 10, 2, word.Int(7))
}

func TestWhatIsLaidAfterACollectionStandsBehind(t *testing.T) {
	a := example(t)
	roots := copier.Collect(a, words(2))
	w := block(t, a, 5, roots[0])
	if w != 52 {
		t.Errorf("the next block is %d, want 52", w)
	}
	wantCollect(t, a, words(w), 2)
	wantBlock(t, a, 2, 5, 6)
	wantBlock(t, a, 6, 1, 12, 6)
}

func TestCollectLeavesTheRootsAndAnswersNewMemory(t *testing.T) {
	a := example(t)
	roots := words(3, 8, 2)
	now := copier.Collect(a, roots)
	if !slices.Equal(roots, words(3, 8, 2)) {
		t.Errorf("the roots are %v", roots)
	}
	now[0], now[1], now[2] = 99, 99, 99
	if !slices.Equal(roots, words(3, 8, 2)) {
		t.Errorf("the roots are %v", roots)
	}
	wantBlock(t, a, 46, 1, 42, 46)
}

// P3.2

// state is all that can be asked of an arena's current half.
type state struct {
	base, top int
	blocks    []api.Word
	tags      []int
	fields    [][]api.Word
}

func stateOf(a *arena.Arena) state {
	s := state{base: a.Base(), top: a.Top(), blocks: a.Blocks()}
	for _, w := range s.blocks {
		s.tags = append(s.tags, a.Tag(w))
		s.fields = append(s.fields, fieldsOf(a, w))
	}
	return s
}

func (s state) equal(o state) bool {
	return s.base == o.base && s.top == o.top && slices.Equal(s.blocks, o.blocks) && slices.Equal(s.tags, o.tags) && slices.EqualFunc(s.fields, o.fields, slices.Equal)
}

func TestReachChangesNothing(t *testing.T) {
	a := example(t)
	before := stateOf(a)
	roots := words(8, 3, 2, 12)
	for range 3 {
		wantReach(t, a, roots, 6, 8, 2, 12)
	}
	if !stateOf(a).equal(before) || !slices.Equal(roots, words(8, 3, 2, 12)) {
		t.Errorf("%v, roots %v", stateOf(a), roots)
	}
}

func TestReachCountsHeadsToo(t *testing.T) {
	a := arena.New(20)
	x, y := block(t, a, 1), block(t, a, api.TagText, 1, 1, 1)
	wantReach(t, a, words(x), 1, x)
	wantReach(t, a, words(y), 4, y)
	wantReach(t, a, words(y, x, y), 5, y, x)
	wantReach(t, a, nil, 0)
	wantReach(t, a, words(), 0)
}

func TestReachAnswersNewMemory(t *testing.T) {
	a := example(t)
	roots := words(2, 8, 12)
	_, all := copier.Reach(a, roots)
	for i := range all {
		all[i] = 99
	}
	wantReach(t, a, roots, 6, 2, 8, 12)
}

func TestAnArenaThatNewRefusedHasNothingInReach(t *testing.T) {
	for _, a := range []*arena.Arena{nil, {}, arena.New(1)} {
		wantReach(t, a, words(2, 3, 0), 0)
		wantCollect(t, a, words(2, 3, 0), 2, 3, 0)
		wantCollect(t, a, nil)
	}
}

// P3.3

// step is a step of one way through two arenas at a time: here and there one came to these words.
type step struct{ here, there api.Word }

// alike goes the same ways through what was and what is, from the same roots: it has to find the same all along, and one block there for each one here.
func alike(t *testing.T, was *plain, now *arena.Arena, roots, moved []api.Word) {
	t.Helper()
	partner, back := map[int]api.Word{}, map[api.Word]int{}
	var todo []step
	for i := range roots {
		todo = append(todo, step{roots[i], moved[i]})
	}
	for len(todo) > 0 {
		s := todo[0]
		todo = todo[1:]
		k, distance := was.leads(s.here)
		if k < 0 {
			if s.here != s.there {
				t.Fatalf("%d is %d now", s.here, s.there)
			}
			continue
		}
		there, d := now.Leads(s.there)
		if there == 0 || d != distance {
			t.Fatalf("%d led at distance %d; %d at %d, to %d", s.here, distance, s.there, d, there)
		}
		other, seen := partner[k]
		first, held := back[there]
		if seen != held || seen && (other != there || first != k) {
			t.Fatalf("block %d is %d, and %d", k, other, there)
		}
		if seen {
			continue
		}
		partner[k], back[there] = there, k
		b := was.blocks[k]
		fields := fieldsOf(now, there)
		if now.Tag(there) != b.tag || len(fields) != len(b.fields) {
			t.Fatalf("block %d: tag %d, %d fields, want %d, %d", k, now.Tag(there), len(fields), b.tag, len(b.fields))
		}
		for i, x := range b.fields {
			if b.tag != 202 {
				todo = append(todo, step{x, fields[i]})
			} else if x != fields[i] {
				t.Fatalf("a text's field is %d, want %d", fields[i], x)
			}
		}
	}
	if len(back) != len(now.Blocks()) {
		t.Fatalf("%d blocks were in reach, %d lie there", len(back), len(now.Blocks()))
	}
}

// plainBlock is a block as the chapter tells it.
type plainBlock struct {
	at, tag int
	fields  []api.Word
}

// plain is the blocks of an arena, each asked in turn.
type plain struct {
	half, base int
	blocks     []plainBlock
}

func plainOf(a *arena.Arena) *plain {
	p := &plain{half: a.Half(), base: a.Base()}
	for _, w := range a.Blocks() {
		p.blocks = append(p.blocks, plainBlock{at: int(w / 2), tag: a.Tag(w), fields: fieldsOf(a, w)})
	}
	return p
}

// leads answers the place of the block in the list; -1: there is none.
func (p *plain) leads(w api.Word) (int, int) {
	for k, b := range p.blocks {
		if w == api.Word(2*b.at) {
			return k, 0
		}
		for j := 0; b.tag == 200 && j+1 < len(b.fields); j++ {
			if b.fields[j] == api.Word(2*(256*(j+1)+201)+1) && w == api.Word(2*(b.at+j+1)) {
				return k, j + 1
			}
		}
	}
	return -1, 0
}

// collected goes by the chapter's words: blocks are laid, and words of what has been laid move, one at a time.
func (p *plain) collected(roots []api.Word) (*plain, []int, []api.Word) {
	to := &plain{half: p.half, base: p.half - p.base}
	top := to.base
	var order []int
	move := func(w api.Word) api.Word {
		k, distance := p.leads(w)
		if k < 0 {
			return w
		}
		at := slices.Index(order, k)
		if at < 0 {
			at = len(order)
			order = append(order, k)
			to.blocks = append(to.blocks, plainBlock{at: top + 1, tag: p.blocks[k].tag, fields: slices.Clone(p.blocks[k].fields)})
			top += 1 + len(p.blocks[k].fields)
		}
		return api.Word(2 * (to.blocks[at].at + distance))
	}
	now := make([]api.Word, len(roots))
	for i, w := range roots {
		now[i] = move(w)
	}
	for i := 0; i < len(to.blocks); i++ {
		for j, x := range to.blocks[i].fields {
			if to.blocks[i].tag != 202 {
				to.blocks[i].fields[j] = move(x)
			}
		}
	}
	return to, order, now
}

// wantPlain holds an arena against plain blocks.
func wantPlain(t *testing.T, a *arena.Arena, p *plain) {
	t.Helper()
	got := plainOf(a)
	same := func(x, y plainBlock) bool { return x.at == y.at && x.tag == y.tag && slices.Equal(x.fields, y.fields) }
	if a.Base() != p.base || !slices.EqualFunc(got.blocks, p.blocks, same) {
		t.Fatalf("base %d, blocks %v, want %d, %v", a.Base(), got.blocks, p.base, p.blocks)
	}
}

// grow lays blocks at random, and puts words into fields: most lead somewhere, many to inner slots.
func grow(r *rand.Rand, a *arena.Arena, count int) {
	tags := []int{0, 1, 199, 200, 200, 202}
	for range count {
		a.Alloc(tags[r.Intn(len(tags))], r.Intn(5))
	}
	for _, w := range a.Blocks() {
		for i := range a.Size(w) {
			if a.Tag(w) == api.TagClosure && r.Intn(3) == 0 {
				a.Set(w, i, word.Head(api.TagInner, i+1))
			}
		}
	}
	for _, w := range a.Blocks() {
		for i := range a.Size(w) {
			if x, _ := a.Get(w, i); word.Tag(x) != api.TagInner {
				a.Set(w, i, some(r, a))
			}
		}
	}
}

// some answers a word: a number's, any cell's (an inner slot's, perhaps), or a block's.
func some(r *rand.Rand, a *arena.Arena) api.Word {
	all := a.Blocks()
	switch kind := r.Intn(6); {
	case kind == 0:
		return word.Int(int64(r.Intn(100)))
	case kind <= 2 || len(all) == 0:
		return word.Ptr(r.Intn(2*a.Half() + 2))
	default:
		return all[r.Intn(len(all))]
	}
}

func someRoots(r *rand.Rand, a *arena.Arena) []api.Word {
	roots := make([]api.Word, r.Intn(6))
	for i := range roots {
		roots[i] = some(r, a)
	}
	return roots
}

func cellsOf(blocks []plainBlock) int {
	cells := 0
	for _, b := range blocks {
		cells += 1 + len(b.fields)
	}
	return cells
}

func TestCollectionsAgreeWithPlainOnes(t *testing.T) {
	for seed := range int64(400) {
		r := rand.New(rand.NewSource(seed))
		a := arena.New(2 + r.Intn(90))
		for range 4 {
			grow(r, a, r.Intn(25))
			roots := someRoots(r, a)
			was := plainOf(a)
			want, order, words := was.collected(roots)
			var blocks []api.Word
			for _, k := range order {
				blocks = append(blocks, api.Word(2*was.blocks[k].at))
			}
			wantReach(t, a, roots, cellsOf(want.blocks), blocks...)
			wantPlain(t, a, was)
			wantCollect(t, a, roots, words...)
			wantPlain(t, a, want)
		}
	}
}

// tidy makes numbers of all words that lead to nothing, so that none of them comes to lead anywhere: only then can what follows be seen.
func tidy(a *arena.Arena) {
	p := plainOf(a)
	for _, b := range p.blocks {
		for i, x := range b.fields {
			if k, _ := p.leads(x); k < 0 && b.tag != 202 && x&1 == 0 {
				a.Set(api.Word(2*b.at), i, x+1)
			}
		}
	}
}

func tidyRoots(a *arena.Arena, roots []api.Word) []api.Word {
	var all []api.Word
	for _, w := range roots {
		if b, _ := a.Leads(w); b != 0 || w&1 == 1 {
			all = append(all, w)
		}
	}
	return all
}

func TestAllIsAsItWasFromTheRoots(t *testing.T) {
	for seed := range int64(300) {
		r := rand.New(rand.NewSource(seed))
		a := arena.New(10 + r.Intn(90))
		for range 3 {
			grow(r, a, r.Intn(25))
			tidy(a)
			roots := tidyRoots(a, someRoots(r, a))
			first := plainOf(a)
			cells, _ := copier.Reach(a, roots)
			once := copier.Collect(a, roots)
			alike(t, first, a, roots, once)
			if used := a.Top() - a.Base(); used != cells {
				t.Fatalf("%d cells were in reach, %d are in use", cells, used)
			}
			twice := copier.Collect(a, once)
			alike(t, first, a, roots, twice)
			if used := a.Top() - a.Base(); used != cells {
				t.Fatalf("%d cells were in reach, %d are in use after one more", cells, used)
			}
		}
	}
}

// What one collection has laid in order, the next one lays just so.
func TestOneMoreCollectionKeepsTheOrder(t *testing.T) {
	for seed := range int64(100) {
		r := rand.New(rand.NewSource(seed))
		a := arena.New(10 + r.Intn(90))
		grow(r, a, 20)
		tidy(a)
		once := copier.Collect(a, tidyRoots(a, someRoots(r, a)))
		base, blocks := a.Base(), a.Blocks()
		copier.Collect(a, once)
		for i, w := range a.Blocks() {
			if int(w/2)-a.Base() != int(blocks[i]/2)-base {
				t.Fatalf("block %d lay at %d, and lies at %d", i, blocks[i], w)
			}
		}
	}
}
