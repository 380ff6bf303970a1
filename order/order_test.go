package order_test

import (
	"math"
	"slices"
	"strings"
	"testing"

	"grapnel/api"
	"grapnel/arena"
	"grapnel/mem"
	"grapnel/order"
	"grapnel/text"
	"grapnel/word"
)

const (
	much = 1 << 20 // room, and steps, that no test uses up
	most = math.MaxInt
)

func mustLay(t *testing.T, m *mem.Mem, s string) api.Word {
	t.Helper()
	w, _, e := text.Lay(m, s, nil)
	if e != api.OK {
		t.Fatalf("Lay(%q): error %d", s, e)
	}
	return w
}

// mustAlloc lays a block with these fields, whatever they are.
func mustAlloc(t *testing.T, a *arena.Arena, tag int, fields ...api.Word) api.Word {
	t.Helper()
	w, e := a.Alloc(tag, len(fields))
	if e != api.OK {
		t.Fatalf("Alloc(%d, %d): error %d", tag, len(fields), e)
	}
	for i, x := range fields {
		if e := a.Set(w, i, x); e != api.OK {
			t.Fatalf("Set(%d, %d): error %d", w, i, e)
		}
	}
	return w
}

func numbers(all ...int64) []api.Word {
	var l []api.Word
	for _, n := range all {
		l = append(l, word.Int(n))
	}
	return l
}

// closure lays one with an inner slot, and tells its word and the slot's.
func closure(t *testing.T, a *arena.Arena) (api.Word, api.Word) {
	t.Helper()
	f := mustAlloc(t, a, api.TagClosure, word.Int(1), word.Head(api.TagInner, 2), word.Int(2), word.Int(3))
	inner := f + 2*2
	if block, d := a.Leads(inner); block != f || d != 2 {
		t.Fatalf("Leads(%d) = %d, %d", inner, block, d)
	}
	return f, inner
}

// noText lays a block of TagText that holds none.
func noText(t *testing.T, a *arena.Arena) api.Word {
	t.Helper()
	w := mustAlloc(t, a, api.TagText, 1<<63)
	if _, e := text.Length(a, w); e != api.ErrForm {
		t.Fatalf("Length(%d): error %d", w, e)
	}
	return w
}

// seen is all that may be seen of an arena, as one list.
func seen(a *arena.Arena) []api.Word {
	all := []api.Word{api.Word(a.Half()), api.Word(a.Base()), api.Word(a.Top())}
	for _, w := range a.Blocks() {
		all = append(all, w, api.Word(a.Tag(w)), api.Word(a.Size(w)))
		for i := range a.Size(w) {
			x, _ := a.Get(w, i)
			all = append(all, x)
		}
	}
	return all
}

// ask holds Compare against an answer, and against what it may change: nothing.
func ask(t *testing.T, a *arena.Arena, v, w api.Word, room int, steps int64, want int, taken int64, fault api.Errno) {
	t.Helper()
	before := seen(a)
	n, k, e := order.Compare(a, v, w, room, steps)
	if n != want || k != taken || e != fault {
		t.Errorf("Compare(%d, %d, %d, %d) = %d, %d, %d, want %d, %d, %d", v, w, room, steps, n, k, e, want, taken, fault)
	}
	if !slices.Equal(seen(a), before) {
		t.Errorf("Compare(%d, %d) changed the arena", v, w)
	}
}

// want holds Compare, with room and steps enough, against an answer, and turned round against the other one.
func want(t *testing.T, a *arena.Arena, v, w api.Word, told int, taken int64) {
	t.Helper()
	ask(t, a, v, w, much, much, told, taken, api.OK)
	ask(t, a, w, v, much, much, -told, taken, api.OK)
}

// wantFault does so with an error, which is the same turned round.
func wantFault(t *testing.T, a *arena.Arena, v, w api.Word, taken int64, fault api.Errno) {
	t.Helper()
	ask(t, a, v, w, much, much, 0, taken, fault)
	ask(t, a, w, v, much, much, 0, taken, fault)
}

// The chapter's examples

func TestExamples(t *testing.T) {
	m := mem.New(100)
	a := m.Arena()
	want(t, a, word.Int(3), word.Int(-1), 1, 1)
	want(t, a, mustLay(t, m, "ab"), mustLay(t, m, "abc"), -1, 1)
	v, w := mustAlloc(t, a, 0, numbers(1, 2)...), mustAlloc(t, a, 0, numbers(1, 3)...)
	want(t, a, v, w, -1, 3)
	ask(t, a, v, w, 2, much, 0, 1, api.ErrStack)
	want(t, a, word.Int(9), v, -1, 1)
	want(t, a, mustAlloc(t, a, 1), mustAlloc(t, a, 2), -1, 1)
	f, inner := closure(t, a)
	for _, x := range []api.Word{word.Int(1), v, mustLay(t, m, ""), noText(t, a), 0, f, inner, 1 << 40} {
		wantFault(t, a, f, x, 1, api.ErrFun)
		wantFault(t, a, inner, x, 1, api.ErrFun)
	}
}

// P6.1: what is told of a pair

func TestNumbers(t *testing.T) {
	a := arena.New(2)
	all := []int64{-1 << 62, -1<<62 + 1, -256, -2, -1, 0, 1, 2, 255, 1<<31 - 1, 1 << 31, 1<<62 - 1}
	for i, v := range all {
		for k, w := range all {
			told := 0
			if i < k {
				told = -1
			} else if i > k {
				told = 1
			}
			want(t, a, word.Int(v), word.Int(w), told, 1)
		}
	}
}

func TestANumberIsLessThanAnyBlock(t *testing.T) {
	m := mem.New(100)
	a := m.Arena()
	blocks := []api.Word{mustAlloc(t, a, 0), mustAlloc(t, a, 0, numbers(-5)...), mustAlloc(t, a, api.TagLast), mustLay(t, m, ""), mustLay(t, m, "abc")}
	for _, w := range blocks {
		for _, n := range []int64{-1 << 62, -1, 0, 1, 1<<62 - 1} {
			want(t, a, word.Int(n), w, -1, 1)
		}
	}
	want(t, a, mustAlloc(t, a, 4, word.Int(1), word.Int(5)), mustAlloc(t, a, 4, word.Int(1), blocks[1]), -1, 3)
}

func TestTexts(t *testing.T) {
	m := mem.New(4000)
	long := strings.Repeat("long ", 400)
	all := []string{"", "\x00", "\x00\x00", "\x00a", "\x07", "A", "a", "a\x00", "aa", "ab", "abc", "abcdefg", "abcdefgh", "abcdefgh\x00", "abcdefghi", "abcdefgi", "abd", "b", long, long + "\x00", long + "a", "\x7f", "\x80", "\x80\x00", "\xff", "\xffa", "\xff\xff"}
	for i, v := range all {
		for k, w := range all {
			m.Force(nil)
			one, two := mustLay(t, m, v), mustLay(t, m, w)
			want(t, m.Arena(), one, two, strings.Compare(all[i], all[k]), 1)
			if told := strings.Compare(v, w); (told < 0) != (i < k) || (told > 0) != (i > k) {
				t.Fatalf("%q and %q are out of order", v, w)
			}
		}
	}
}

// A text that Lay refuses may lie there all the same.
func TestTextsOfMoreThanLayTakes(t *testing.T) {
	a := arena.New(api.MaxSemi)
	v, w := mustAlloc(t, a, api.TagText, make([]api.Word, api.MaxSize)...), mustAlloc(t, a, api.TagText, make([]api.Word, api.MaxSize)...)
	want(t, a, v, w, 0, 1)
	if e := text.Put(a, w, 8*api.MaxSize-2, 1); e != api.OK {
		t.Fatalf("Put: error %d", e)
	}
	want(t, a, v, w, -1, 1)
}

func TestTheLesserTagIsLess(t *testing.T) {
	m := mem.New(200)
	a := m.Arena()
	tags := []int{0, 1, 2, 100, api.TagLast - 1, api.TagLast}
	for i, v := range tags {
		want(t, a, mustAlloc(t, a, v, numbers(9, 9)...), mustLay(t, m, ""), -1, 1)
		for _, w := range tags[i+1:] {
			want(t, a, mustAlloc(t, a, v, numbers(9, 9)...), mustAlloc(t, a, w, numbers(1)...), -1, 1)
			m.Force(nil)
		}
	}
}

func TestOfOneTagTheLesserSizeIsLess(t *testing.T) {
	a := arena.New(100)
	var all []api.Word
	for size := range 6 {
		all = append(all, mustAlloc(t, a, 7, slices.Repeat(numbers(int64(9-size)), size)...))
	}
	for i, v := range all {
		for _, w := range all[i+1:] {
			want(t, a, v, w, -1, 1)
		}
	}
}

func TestTheFirstFieldThatDiffersDecides(t *testing.T) {
	const n = 5
	for at := range n {
		a := arena.New(100)
		one, two := numbers(4, 4, 4, 4, 4), numbers(4, 4, 4, 4, 4)
		two[at] = word.Int(5)
		for k := at + 1; k < n; k++ { // all behind it tell otherwise
			one[k] = word.Int(6)
		}
		want(t, a, mustAlloc(t, a, 3, one...), mustAlloc(t, a, 3, two...), -1, int64(at+2))
	}
	a := arena.New(100)
	want(t, a, mustAlloc(t, a, 3, numbers(4, 4, 4, 4, 4)...), mustAlloc(t, a, 3, numbers(4, 4, 4, 4, 4)...), 0, n+1)
	want(t, a, mustAlloc(t, a, 3), mustAlloc(t, a, 3), 0, 1)
}

// A field's own fields come ahead of the next field.
func TestDepthComesFirst(t *testing.T) {
	a := arena.New(100)
	v := mustAlloc(t, a, 0, mustAlloc(t, a, 1, numbers(1, 2)...), word.Int(9))
	w := mustAlloc(t, a, 0, mustAlloc(t, a, 1, numbers(1, 3)...), word.Int(8))
	want(t, a, v, w, -1, 4)
	v = mustAlloc(t, a, 0, mustAlloc(t, a, 1, numbers(1, 2)...), word.Int(9))
	w = mustAlloc(t, a, 0, mustAlloc(t, a, 1, numbers(1, 2)...), word.Int(8))
	want(t, a, v, w, 1, 5)
}

// P6.1: sharing and circles

func TestOneBlockIsNotGoneInto(t *testing.T) {
	m := mem.New(100)
	a := m.Arena()
	f, _ := closure(t, a)
	for _, w := range []api.Word{mustAlloc(t, a, 0), mustAlloc(t, a, 0, f, 0, noText(t, a)), mustLay(t, m, "abc")} {
		want(t, a, w, w, 0, 1)
		ask(t, a, w, w, 2, 1, 0, 1, api.OK)
		want(t, a, mustAlloc(t, a, 5, w, w), mustAlloc(t, a, 5, w, w), 0, 3)
	}
}

func TestBlocksThatShare(t *testing.T) {
	a := arena.New(200)
	v, w := mustAlloc(t, a, 0, numbers(1)...), mustAlloc(t, a, 0, numbers(1)...)
	steps := int64(2)
	for range 10 {
		v, w = mustAlloc(t, a, 1, v, v), mustAlloc(t, a, 1, w, w)
		steps = 2*steps + 1
	}
	want(t, a, v, w, 0, steps)
}

func TestCircles(t *testing.T) {
	a := arena.New(100)
	z, u := mustAlloc(t, a, 0, 0), mustAlloc(t, a, 0, 0)
	a.Set(z, 0, z)
	a.Set(u, 0, u)
	want(t, a, z, z, 0, 1)
	for _, steps := range []int64{1, 2, 3, 1000} {
		ask(t, a, z, u, 2, steps, 0, steps, api.ErrSteps)
	}
	a.Set(u, 0, z) // z's only field is z too, and that is one block
	want(t, a, z, u, 0, 2)
	// A circle that leaves a pair at each turn comes to the room's end.
	p, q := mustAlloc(t, a, 0, 0, word.Int(1)), mustAlloc(t, a, 0, 0, word.Int(1))
	a.Set(p, 0, p)
	a.Set(q, 0, q)
	ask(t, a, p, q, 20, much, 0, 10, api.ErrStack)
	ask(t, a, p, q, 21, much, 0, 10, api.ErrStack)
	ask(t, a, p, q, 22, much, 0, 11, api.ErrStack)
	ask(t, a, p, q, 20, 9, 0, 9, api.ErrSteps)
	ask(t, a, p, q, 20, 10, 0, 10, api.ErrStack)
	a.Set(q, 1, word.Int(2)) // nobody ever comes to it
	ask(t, a, p, q, 20, much, 0, 10, api.ErrStack)
}

// P6.1: the room

func TestTheFirstPairNeedsRoom(t *testing.T) {
	a := arena.New(10)
	f, _ := closure(t, a)
	for _, room := range []int{1, 0, -1, math.MinInt} {
		for _, v := range []api.Word{word.Int(3), f, 0, 1 << 40} {
			ask(t, a, v, word.Int(3), room, much, 0, 0, api.ErrStack)
			ask(t, a, v, v, room, 0, 0, 0, api.ErrStack)
		}
	}
	ask(t, a, word.Int(3), word.Int(3), 2, 1, 0, 1, api.OK)
	ask(t, a, word.Int(3), word.Int(3), most, math.MaxInt64, 0, 1, api.OK)
}

func TestRoomsAroundEachBound(t *testing.T) {
	a := arena.New(2 * (api.MaxSize + 1))
	for _, n := range []int{1, 2, 3, 7, 100, api.MaxSize} {
		a.Flip()
		v, w := mustAlloc(t, a, 0, make([]api.Word, n)...), mustAlloc(t, a, 0, make([]api.Word, n)...)
		for i := range n {
			a.Set(v, i, word.Int(int64(i)))
			a.Set(w, i, word.Int(int64(i)))
		}
		for room := 2*n - 3; room < 2*n; room++ {
			if room >= 2 {
				ask(t, a, v, w, room, much, 0, 1, api.ErrStack)
			}
		}
		ask(t, a, v, w, 2*n, much, 0, int64(n)+1, api.OK)
		ask(t, a, v, w, 2*n+1, much, 0, int64(n)+1, api.OK)
	}
}

// What was taken off makes room: a list's tail needs no more than its first block, its head's fields do.
func TestWhatWasTakenOffMakesRoom(t *testing.T) {
	a := arena.New(1000)
	v, w := word.Int(0), word.Int(0)
	for i := range 100 {
		v, w = mustAlloc(t, a, 0, word.Int(int64(i)), v), mustAlloc(t, a, 0, word.Int(int64(i)), w)
	}
	ask(t, a, v, w, 4, much, 0, 201, api.OK)
	ask(t, a, v, w, 3, much, 0, 1, api.ErrStack)
	v, w = word.Int(0), word.Int(0)
	a.Flip()
	for i := range 100 {
		v, w = mustAlloc(t, a, 0, v, word.Int(int64(i))), mustAlloc(t, a, 0, w, word.Int(int64(i)))
	}
	ask(t, a, v, w, 202, much, 0, 201, api.OK)
	ask(t, a, v, w, 201, much, 0, 100, api.ErrStack)
}

// P6.1: the steps

func TestStepsAroundEachBound(t *testing.T) {
	a := arena.New(100)
	v, w := mustAlloc(t, a, 0, numbers(1, 2, 3)...), mustAlloc(t, a, 0, numbers(1, 2, 4)...)
	for steps := int64(0); steps < 4; steps++ {
		ask(t, a, v, w, 6, steps, 0, steps, api.ErrSteps)
	}
	ask(t, a, v, w, 6, 4, -1, 4, api.OK)
	ask(t, a, v, w, 6, 5, -1, 4, api.OK)
	for _, steps := range []int64{-1, -100, math.MinInt64} {
		ask(t, a, v, w, 6, steps, 0, 0, api.ErrSteps)
	}
	ask(t, a, v, w, 6, math.MaxInt64, -1, 4, api.OK)
}

// P6.1: the errors, in their order

func TestErrStepsComesAheadOfThePairsFaults(t *testing.T) {
	m := mem.New(100)
	a := m.Arena()
	f, inner := closure(t, a)
	for _, bad := range []api.Word{f, inner, noText(t, a), 0} {
		ask(t, a, bad, bad, 2, 0, 0, 0, api.ErrSteps)
		ask(t, a, mustAlloc(t, a, 0, bad), mustAlloc(t, a, 0, bad), 2, 1, 0, 1, api.ErrSteps)
	}
	ask(t, a, mustAlloc(t, a, 0, 1, 1), mustAlloc(t, a, 0, 1, 1), 3, 0, 0, 0, api.ErrSteps)
}

func TestErrAddr(t *testing.T) {
	m := mem.New(500)
	a := m.Arena()
	fine := []api.Word{word.Int(1), word.Int(-1), mustLay(t, m, "x")}
	block := mustAlloc(t, a, 0, numbers(1, 2)...)
	f, _ := closure(t, a)
	bad := []api.Word{0, noText(t, a), mustAlloc(t, a, api.TagText), block - 2, block + 2, f + 2, f + 6, word.Ptr(a.Half()), word.Ptr(a.Half() + 1), 1 << 40, math.MaxUint64 - 1}
	for _, v := range bad {
		for _, w := range append(append(fine, block), bad...) {
			wantFault(t, a, v, w, 1, api.ErrAddr)
		}
		wantFault(t, a, v, f, 1, api.ErrFun)
		wantFault(t, a, mustAlloc(t, a, 0, v), mustAlloc(t, a, 0, v), 2, api.ErrAddr)
	}
}

func TestAFaultThatNobodyComesToIsNone(t *testing.T) {
	a := arena.New(100)
	f, inner := closure(t, a)
	for _, bad := range []api.Word{f, inner, noText(t, a), 0} {
		want(t, a, mustAlloc(t, a, 0, word.Int(1), bad), mustAlloc(t, a, 0, word.Int(2), bad), -1, 2)
		want(t, a, mustAlloc(t, a, 0, bad), mustAlloc(t, a, 1, bad), -1, 1)
		want(t, a, mustAlloc(t, a, 0, bad), mustAlloc(t, a, 0, bad, bad), -1, 1)
		want(t, a, mustAlloc(t, a, 0, bad), word.Int(1), 1, 1)
	}
}

// A pair's faults are looked for ahead of all that is told of it, and ahead of any room for its fields.
func TestFaultsComeFirst(t *testing.T) {
	a := arena.New(100)
	f, inner := closure(t, a)
	wantFault(t, a, f, f, 1, api.ErrFun)
	wantFault(t, a, f, inner, 1, api.ErrFun)
	wantFault(t, a, noText(t, a), mustAlloc(t, a, 0), 1, api.ErrAddr)
	none := noText(t, a)
	wantFault(t, a, none, none, 1, api.ErrAddr)
	wantFault(t, a, none, f, 1, api.ErrFun)
	v := mustAlloc(t, a, 0, word.Int(1), f)
	w := mustAlloc(t, a, 0, word.Int(1), f)
	ask(t, a, v, w, 3, much, 0, 1, api.ErrStack)
	ask(t, a, v, w, 4, much, 0, 3, api.ErrFun)
	ask(t, a, v, w, 4, 2, 0, 2, api.ErrSteps)
}

// Whatever is no arena holds no blocks.
func TestNoArena(t *testing.T) {
	for _, a := range []*arena.Arena{nil, {}, arena.New(0)} {
		want(t, a, word.Int(1), word.Int(2), -1, 1)
		wantFault(t, a, 2, word.Int(2), 1, api.ErrAddr)
		wantFault(t, a, 2, 2, 1, api.ErrAddr)
		wantHash(t, a, word.Int(5), 0, 222)
		wantNoHash(t, a, 2, much, api.ErrAddr)
	}
}
