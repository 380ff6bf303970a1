package mem_test

import (
	"math"
	"slices"
	"testing"

	"grapnel/api"
	"grapnel/arena"
	"grapnel/copier"
	"grapnel/mem"
	"grapnel/word"
)

func words(all ...api.Word) []api.Word { return all }

// wantAlloc holds an Alloc that has room against its block, what the roots are now, and the count behind it.
func wantAlloc(t *testing.T, m *mem.Mem, tag, size int, roots []api.Word, block api.Word, now []api.Word, count int) {
	t.Helper()
	w, got, e := m.Alloc(tag, size, roots)
	if w != block || !slices.Equal(got, now) || e != api.OK {
		t.Errorf("Alloc(%d, %d, %v) = %d, %v, %d, want %d, %v", tag, size, roots, w, got, e, block, now)
	}
	if m.Arena().Tag(w) != tag || m.Arena().Size(w) != size {
		t.Errorf("block %d: tag %d, size %d, want %d, %d", w, m.Arena().Tag(w), m.Arena().Size(w), tag, size)
	}
	wantCount(t, m, count)
}

// wantRefused holds an Alloc against an error, and what may be seen of all cells against what it was.
func wantRefused(t *testing.T, m *mem.Mem, tag, size int, roots []api.Word, want api.Errno) {
	t.Helper()
	was, count := seen(m.Arena()), m.Count()
	w, now, e := m.Alloc(tag, size, roots)
	if w != 0 || len(now) != 0 || e != want {
		t.Errorf("Alloc(%d, %d, %v) = %d, %v, %d, want error %d alone", tag, size, roots, w, now, e, want)
	}
	if !slices.Equal(seen(m.Arena()), was) {
		t.Errorf("Alloc(%d, %d, %v) changed the cells", tag, size, roots)
	}
	wantCount(t, m, count)
}

func wantForce(t *testing.T, m *mem.Mem, roots []api.Word, now []api.Word, count int) {
	t.Helper()
	if got := m.Force(roots); !slices.Equal(got, now) {
		t.Errorf("Force(%v) = %v, want %v", roots, got, now)
	}
	wantCount(t, m, count)
}

func wantCount(t *testing.T, m *mem.Mem, want int) {
	t.Helper()
	if got := m.Count(); got != want {
		t.Errorf("Count() = %d, want %d", got, want)
	}
}

func wantPlaces(t *testing.T, m *mem.Mem, base, top int, blocks ...api.Word) {
	t.Helper()
	a := m.Arena()
	if a.Base() != base || a.Top() != top || !slices.Equal(a.Blocks(), blocks) {
		t.Errorf("Base, Top, Blocks = %d, %d, %v, want %d, %d, %v", a.Base(), a.Top(), a.Blocks(), base, top, blocks)
	}
}

func fieldsOf(a *arena.Arena, w api.Word) []api.Word {
	var all []api.Word
	for i := range a.Size(w) {
		x, _ := a.Get(w, i)
		all = append(all, x)
	}
	return all
}

func wantFields(t *testing.T, m *mem.Mem, w api.Word, want ...api.Word) {
	t.Helper()
	if got := fieldsOf(m.Arena(), w); !slices.Equal(got, want) {
		t.Errorf("block %d has %v, want %v", w, got, want)
	}
}

// seen is all that may be seen of an arena, as one list.
func seen(a *arena.Arena) []api.Word {
	all := words(api.Word(a.Half()), api.Word(a.Base()), api.Word(a.Top()))
	for _, w := range a.Blocks() {
		all = append(all, w, api.Word(a.Tag(w)), api.Word(a.Size(w)))
		all = append(all, fieldsOf(a, w)...)
	}
	return all
}

// put puts a word where there has to be a field.
func put(t *testing.T, m *mem.Mem, w api.Word, i int, x api.Word) {
	t.Helper()
	if e := m.Arena().Set(w, i, x); e != api.OK {
		t.Fatalf("Set(%d, %d, %d): error %d", w, i, x, e)
	}
}

// The examples

func TestExamples(t *testing.T) {
	m := mem.New(8)
	wantAlloc(t, m, 1, 2, nil, 2, nil, 0)
	wantAlloc(t, m, 2, 2, words(2), 8, words(2), 0)
	wantAlloc(t, m, 3, 2, words(2), 24, words(18), 1)
	wantPlaces(t, m, 8, 14, 18, 24)
	wantRefused(t, m, 0, 4, words(18, 24), api.ErrFull)
	wantCount(t, m, 1)
	wantForce(t, m, words(24), words(2), 2)
	wantPlaces(t, m, 0, 3, 2)
	if tag := m.Arena().Tag(2); tag != 3 {
		t.Errorf("tag %d, want 3", tag)
	}
}

// P4.1

func TestNewRefusesWhatTheArenaRefuses(t *testing.T) {
	for _, n := range []int{math.MinInt, -1, 0, 1, 2, 3, 8, api.MaxSemi - 1, api.MaxSemi, api.MaxSemi + 1, math.MaxInt} {
		m := mem.New(n)
		if (m == nil) != (arena.New(n) == nil) {
			t.Errorf("New(%d) = %v, and the arena's New otherwise", n, m)
		}
		if m != nil {
			wantPlaces(t, m, 0, 0)
			wantCount(t, m, 0)
			if half := m.Arena().Half(); half != n {
				t.Errorf("New(%d) has halves of %d", n, half)
			}
		}
	}
}

func TestEachMemHasAnArenaOfItsOwn(t *testing.T) {
	one, two := mem.New(8), mem.New(8)
	wantAlloc(t, one, 1, 2, nil, 2, nil, 0)
	wantForce(t, one, nil, nil, 1)
	wantPlaces(t, two, 0, 0)
	wantCount(t, two, 0)
	if one.Arena() == two.Arena() {
		t.Error("two of them share an arena")
	}
}

func TestArenaIsTheSameAllAlong(t *testing.T) {
	m := mem.New(8)
	a := m.Arena()
	wantAlloc(t, m, 1, 2, nil, 2, nil, 0)
	wantForce(t, m, words(2), words(18), 1)
	wantAlloc(t, m, 1, 6, nil, 2, nil, 2)
	if m.Arena() != a {
		t.Error("it is another one now")
	}
}

func TestCountGoesUpByOneACollection(t *testing.T) {
	m := mem.New(4)
	count := 0
	for range 50 {
		wantAlloc(t, m, 0, 3, nil, word.Ptr(m.Arena().Base()+1), nil, count)
		wantRefused(t, m, 0, 0, m.Arena().Blocks(), api.ErrFull)
		wantForce(t, m, nil, nil, count+1)
		wantAlloc(t, m, 0, 1, nil, word.Ptr(m.Arena().Base()+1), nil, count+1)
		count += 2
		wantAlloc(t, m, 0, 3, nil, word.Ptr(5-m.Arena().Base()), nil, count)
		count++
		wantForce(t, m, nil, nil, count)
	}
}

// P4.2

func TestTagsAndSizesThatMayNotBe(t *testing.T) {
	empty, used := mem.New(8), mem.New(8)
	wantAlloc(t, used, 1, 2, nil, 2, nil, 0)
	wantAlloc(t, used, 1, 3, nil, 8, nil, 0)
	put(t, used, 2, 1, 8)
	for _, m := range []*mem.Mem{empty, used} {
		for _, tag := range []int{math.MinInt, -1, api.TagInner, api.TagText + 1, 255, 256, math.MaxInt} {
			for _, size := range []int{0, 1, 7, 8, -1, api.MaxSize + 1} {
				wantRefused(t, m, tag, size, words(2), api.ErrArg)
			}
		}
		for _, tag := range []int{0, 1, api.TagLast, api.TagClosure, api.TagText} {
			for _, size := range []int{math.MinInt, -1, api.MaxSize + 1, math.MaxInt} {
				wantRefused(t, m, tag, size, words(2), api.ErrRange)
			}
		}
	}
	wantCount(t, empty, 0)
	wantCount(t, used, 0)
}

func TestWhatFitsIsLaidAndTheRootsStay(t *testing.T) {
	m := mem.New(12)
	wantAlloc(t, m, 0, 0, nil, 2, nil, 0)
	wantAlloc(t, m, api.TagLast, 1, words(2), 4, words(2), 0)
	wantAlloc(t, m, api.TagClosure, 2, words(4, 2, 4, 0, 1, 3, 77, 9998, math.MaxUint64), 8, words(4, 2, 4, 0, 1, 3, 77, 9998, math.MaxUint64), 0)
	wantAlloc(t, m, api.TagText, 4, words(8), 14, words(8), 0)
	wantAlloc(t, m, 7, 0, nil, 24, nil, 0)
	wantPlaces(t, m, 0, 12, 2, 4, 8, 14, 24)
	wantFields(t, m, 8, 1, 1)
	wantFields(t, m, 14, 1, 1, 1, 1)
}

func TestWhatFitsToTheLastCellMakesNoCollection(t *testing.T) {
	m := mem.New(8)
	wantAlloc(t, m, 0, 7, nil, 2, nil, 0)
	m = mem.New(8)
	wantAlloc(t, m, 0, 2, nil, 2, nil, 0)
	wantAlloc(t, m, 0, 4, nil, 8, nil, 0)
	wantPlaces(t, m, 0, 8, 2, 8)
	wantAlloc(t, m, 0, 0, nil, 18, nil, 1)
	wantPlaces(t, m, 8, 9, 18)
}

func TestOneCellTooMuchMakesACollection(t *testing.T) {
	m := mem.New(8)
	wantAlloc(t, m, 1, 2, nil, 2, nil, 0)
	wantAlloc(t, m, 2, 1, nil, 8, nil, 0)
	put(t, m, 8, 0, word.Int(5))
	wantAlloc(t, m, 3, 3, words(8, 1, 8), 22, words(18, 1, 18), 1)
	wantPlaces(t, m, 8, 14, 18, 22)
	wantFields(t, m, 18, word.Int(5))
	wantFields(t, m, 22, 1, 1, 1)
}

// The new block's fields are fresh, though its cells held something else before.
func TestWhatIsLaidBehindACollectionIsFresh(t *testing.T) {
	m := mem.New(4)
	wantAlloc(t, m, 1, 3, nil, 2, nil, 0)
	for i := range 3 {
		put(t, m, 2, i, 99)
	}
	wantAlloc(t, m, 1, 3, nil, 10, nil, 1)
	wantFields(t, m, 10, 1, 1, 1)
	wantAlloc(t, m, 1, 3, nil, 2, nil, 2)
	wantFields(t, m, 2, 1, 1, 1)
}

func TestRootsMoveWithWhatTheyLeadTo(t *testing.T) {
	m := mem.New(12)
	wantAlloc(t, m, 4, 2, nil, 2, nil, 0)
	wantAlloc(t, m, api.TagClosure, 3, nil, 8, nil, 0)
	wantAlloc(t, m, api.TagText, 2, nil, 16, nil, 0)
	put(t, m, 8, 0, word.Head(api.TagInner, 1))
	put(t, m, 8, 2, 16)
	put(t, m, 16, 0, 2)
	// An inner slot stays one, at the distance it has; a text's fields hold nothing; the rest stays as it is.
	wantAlloc(t, m, 5, 3, words(10, 7, 8, 4, 0), 40, words(28, 7, 26, 4, 0), 1)
	wantPlaces(t, m, 12, 23, 26, 34, 40)
	wantFields(t, m, 26, word.Head(api.TagInner, 1), 1, 34)
	wantFields(t, m, 34, 2, 1)
}

func TestFullJustIfItCannotFit(t *testing.T) {
	const half = 20
	for held := -1; held < half; held++ {
		for size := 0; size < half+2; size++ {
			m := mem.New(half)
			var roots []api.Word
			cells := 0
			if held >= 0 {
				w, _, _ := m.Alloc(1, held, nil)
				roots, cells = words(w), held+1
			}
			for m.Arena().Top() < half {
				m.Alloc(2, 0, roots)
			}
			if cells+size+1 > half {
				wantRefused(t, m, 3, size, roots, api.ErrFull)
				wantCount(t, m, 0)
				continue
			}
			var now []api.Word
			if held >= 0 {
				now = words(2 * (half + 1))
			}
			wantAlloc(t, m, 3, size, roots, word.Ptr(half+cells+1), now, 1)
		}
	}
}

// What hangs behind a root counts as well as what it leads to, and once only.
func TestFullGoesByAllThatIsInReach(t *testing.T) {
	lay := func() *mem.Mem {
		m := mem.New(10)
		for i := range 5 {
			wantAlloc(t, m, i, 1, nil, word.Ptr(2*i+1), nil, 0)
		}
		put(t, m, 2, 0, 6)
		put(t, m, 6, 0, 10)
		put(t, m, 10, 0, 2)
		return m
	}
	wantRefused(t, lay(), 9, 4, words(2), api.ErrFull)
	wantRefused(t, lay(), 9, 4, words(6, 10, 2, 2), api.ErrFull)
	wantRefused(t, lay(), 9, 2, words(18, 2), api.ErrFull)
	wantAlloc(t, lay(), 9, 3, words(2), 34, words(22), 1)
	wantAlloc(t, lay(), 9, 3, words(6, 10, 2, 2), 34, words(22, 26, 30, 30), 1)
	wantAlloc(t, lay(), 9, 1, words(18, 2), 38, words(22, 26), 1)
}

// A half that is smaller than a block may be: no collection helps.
func TestGreaterThanAHalf(t *testing.T) {
	m := mem.New(2)
	for _, size := range []int{2, 3, 100, api.MaxSize} {
		wantRefused(t, m, 0, size, nil, api.ErrFull)
	}
	wantAlloc(t, m, 0, 1, nil, 2, nil, 0)
	wantAlloc(t, m, 0, 1, nil, 6, nil, 1)
	wantRefused(t, m, 0, 0, words(6), api.ErrFull)
}

func TestTheGreatestOfAll(t *testing.T) {
	m := mem.New(api.MaxSemi)
	blocks := api.MaxSemi / (api.MaxSize + 1)
	for i := range blocks {
		wantAlloc(t, m, 0, api.MaxSize, nil, word.Ptr(i*(api.MaxSize+1)+1), nil, 0)
	}
	wantRefused(t, m, 0, api.MaxSize, m.Arena().Blocks(), api.ErrFull)
	wantAlloc(t, m, 0, api.MaxSize, words(2), word.Ptr(api.MaxSemi+api.MaxSize+2), words(word.Ptr(api.MaxSemi+1)), 1)
}

func TestForceKeepsWhatIsInReach(t *testing.T) {
	m := mem.New(12)
	wantForce(t, m, nil, nil, 1)
	wantPlaces(t, m, 12, 12)
	wantForce(t, m, words(5, 2, 0), words(5, 2, 0), 2)
	wantPlaces(t, m, 0, 0)
	wantAlloc(t, m, 1, 2, nil, 2, nil, 2)
	wantAlloc(t, m, 2, 1, nil, 8, nil, 2)
	wantAlloc(t, m, 3, 0, nil, 12, nil, 2)
	put(t, m, 2, 0, 2)
	put(t, m, 2, 1, 8)
	wantForce(t, m, words(3, 8, 2), words(3, 26, 30), 3)
	wantPlaces(t, m, 12, 17, 26, 30)
	wantFields(t, m, 30, 30, 26)
	wantForce(t, m, words(26), words(2), 4)
	wantPlaces(t, m, 0, 2, 2)
	wantForce(t, m, nil, nil, 5)
	wantPlaces(t, m, 12, 12)
}

// A collection that is forced is just the copier's.
func TestForceDoesWhatCollectDoes(t *testing.T) {
	lay := func() *mem.Mem {
		m := mem.New(30)
		for i := range 6 {
			m.Alloc(i, i, nil)
		}
		blocks := m.Arena().Blocks()
		put(t, m, blocks[5], 0, blocks[1])
		put(t, m, blocks[5], 4, blocks[3])
		put(t, m, blocks[3], 1, blocks[5])
		return m
	}
	one, two := lay(), lay()
	roots := words(9, one.Arena().Blocks()[3], one.Arena().Blocks()[2])
	if got, want := one.Force(roots), copier.Collect(two.Arena(), roots); !slices.Equal(got, want) {
		t.Errorf("%v, want %v", got, want)
	}
	if !slices.Equal(seen(one.Arena()), seen(two.Arena())) {
		t.Error("they lie otherwise")
	}
}

func TestRootsThatAreHandedInStay(t *testing.T) {
	m := mem.New(8)
	wantAlloc(t, m, 1, 2, nil, 2, nil, 0)
	roots := words(2, 3)
	_, kept, _ := m.Alloc(1, 3, roots)
	kept[0], kept[1] = 99, 99
	if !slices.Equal(roots, words(2, 3)) {
		t.Fatalf("the roots share the answer of what fits: %v", roots)
	}
	_, moved, _ := m.Alloc(1, 1, roots)
	forced := m.Force(moved)
	if !slices.Equal(roots, words(2, 3)) || !slices.Equal(moved, words(18, 3)) || !slices.Equal(forced, words(2, 3)) {
		t.Errorf("the roots %v, then %v, then %v", roots, moved, forced)
	}
	forced[0] = 99
	wantForce(t, m, moved, words(18, 3), 3)
}

func TestAMemThatNewRefused(t *testing.T) {
	for _, m := range []*mem.Mem{nil, {}, mem.New(1)} {
		if m.Arena() != nil || m.Count() != 0 {
			t.Errorf("Arena %v, Count %d", m.Arena(), m.Count())
		}
		wantRefused(t, m, -1, -1, words(2), api.ErrArg)
		wantRefused(t, m, 0, -1, words(2), api.ErrRange)
		wantRefused(t, m, 0, 0, words(2), api.ErrFull)
		if got := m.Force(words(2, 3)); !slices.Equal(got, words(2, 3)) {
			t.Errorf("Force = %v", got)
		}
	}
}
