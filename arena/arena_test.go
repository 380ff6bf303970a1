package arena_test

import (
	"math"
	"math/rand"
	"slices"
	"testing"

	"grapnel/api"
	"grapnel/arena"
	"grapnel/word"
)

// mustAlloc lays a block that has to fit.
func mustAlloc(t *testing.T, a *arena.Arena, tag, size int) api.Word {
	t.Helper()
	w, e := a.Alloc(tag, size)
	if e != api.OK {
		t.Fatalf("Alloc(%d, %d): error %d", tag, size, e)
	}
	return w
}

// mustSet puts a word where there has to be a field.
func mustSet(t *testing.T, a *arena.Arena, w api.Word, i int, x api.Word) {
	t.Helper()
	if e := a.Set(w, i, x); e != api.OK {
		t.Fatalf("Set(%d, %d, %d): error %d", w, i, x, e)
	}
}

func wantField(t *testing.T, a *arena.Arena, w api.Word, i int, want api.Word) {
	t.Helper()
	if x, e := a.Get(w, i); x != want || e != api.OK {
		t.Errorf("Get(%d, %d) = %d, %d, want %d", w, i, x, e, want)
	}
}

func wantLeads(t *testing.T, a *arena.Arena, w, block api.Word, distance int) {
	t.Helper()
	if x, d := a.Leads(w); x != block || d != distance {
		t.Errorf("Leads(%d) = %d, %d, want %d, %d", w, x, d, block, distance)
	}
}

// wantNothing holds all that asks by a word against one that leads to nothing.
func wantNothing(t *testing.T, a *arena.Arena, w api.Word) {
	t.Helper()
	wantLeads(t, a, w, 0, 0)
	if a.Tag(w) != -1 || a.Size(w) != -1 {
		t.Errorf("Tag, Size of %d = %d, %d, want -1, -1", w, a.Tag(w), a.Size(w))
	}
	for _, i := range []int{0, -1, 1, math.MaxInt, math.MinInt} {
		if x, e := a.Get(w, i); x != 0 || e != api.ErrAddr {
			t.Errorf("Get(%d, %d) = %d, %d, want ErrAddr", w, i, x, e)
		}
		if e := a.Set(w, i, 1); e != api.ErrAddr {
			t.Errorf("Set(%d, %d) = %d, want ErrAddr", w, i, e)
		}
	}
}

func wantPlaces(t *testing.T, a *arena.Arena, base, top int, blocks ...api.Word) {
	t.Helper()
	if a.Base() != base || a.Top() != top {
		t.Errorf("Base, Top = %d, %d, want %d, %d", a.Base(), a.Top(), base, top)
	}
	if !slices.Equal(a.Blocks(), blocks) {
		t.Errorf("Blocks = %v, want %v", a.Blocks(), blocks)
	}
}

// P2.1

func TestNewRefusesWhatIsNoHalf(t *testing.T) {
	for _, n := range []int{1, 0, -1, api.MaxSemi + 1, math.MaxInt, math.MinInt} {
		if arena.New(n) != nil {
			t.Errorf("New(%d) is one", n)
		}
	}
}

func TestNewHasNoBlocksAndItsLowerHalfIsCurrent(t *testing.T) {
	for _, n := range []int{2, 3, 6, 100, api.MaxSemi - 1, api.MaxSemi} {
		a := arena.New(n)
		if a == nil {
			t.Fatalf("New(%d) is none", n)
		}
		if a.Half() != n {
			t.Errorf("Half = %d, want %d", a.Half(), n)
		}
		wantPlaces(t, a, 0, 0)
	}
}

func TestBlocksStandInOrder(t *testing.T) {
	a := arena.New(20)
	first, second, third := mustAlloc(t, a, 9, 3), mustAlloc(t, a, 1, 0), mustAlloc(t, a, api.TagText, 2)
	wantPlaces(t, a, 0, 8, first, second, third)
	if a.Half() != 20 {
		t.Errorf("Half = %d", a.Half())
	}
	a.Flip()
	wantPlaces(t, a, 20, 20)
	wantPlaces(t, a, 20, 20+5, mustAlloc(t, a, 0, 4))
}

func TestBlocksAnswersNewMemory(t *testing.T) {
	a := arena.New(20)
	w := mustAlloc(t, a, 0, 1)
	a.Blocks()[0] = 77
	wantPlaces(t, a, 0, 2, w)
	wantLeads(t, a, w, w, 0)
}

func TestBlocksGoByHeadsAloneWhateverFieldsHold(t *testing.T) {
	a := arena.New(20)
	w := mustAlloc(t, a, 0, 5)
	for i := range 5 {
		mustSet(t, a, w, i, word.Head(3, 0))
	}
	wantPlaces(t, a, 0, 6, w)
	for i := 1; i < 7; i++ {
		wantNothing(t, a, w+2*api.Word(i))
	}
}

// P2.2

func TestAllocErrorsInTheirOrder(t *testing.T) {
	a := arena.New(6)
	w := mustAlloc(t, a, 0, 2)
	for _, c := range []struct {
		tag, size int
		want      api.Errno
	}{
		{-1, 0, api.ErrArg},
		{api.TagInner, 0, api.ErrArg},
		{api.TagText + 1, 0, api.ErrArg},
		{255, 0, api.ErrArg},
		{256, 0, api.ErrArg},
		{math.MaxInt, 0, api.ErrArg},
		{math.MinInt, 0, api.ErrArg},
		{-1, -1, api.ErrArg},
		{api.TagInner, api.MaxSize + 1, api.ErrArg},
		{api.TagInner, 5, api.ErrArg},
		{0, -1, api.ErrRange},
		{0, api.MaxSize + 1, api.ErrRange},
		{api.TagClosure, math.MaxInt, api.ErrRange},
		{api.TagText, math.MinInt, api.ErrRange},
		{0, 3, api.ErrFull},
		{api.TagLast, api.MaxSize, api.ErrFull},
	} {
		if x, e := a.Alloc(c.tag, c.size); x != 0 || e != c.want {
			t.Errorf("Alloc(%d, %d) = %d, %d, want error %d", c.tag, c.size, x, e, c.want)
		}
		wantPlaces(t, a, 0, 3, w)
	}
}

func TestAllocTakesAllTagsOfBlocks(t *testing.T) {
	a := arena.New(2000)
	tags := []int{api.TagClosure, api.TagText}
	for tag := 0; tag <= api.TagLast; tag++ {
		tags = append(tags, tag)
	}
	for i, tag := range tags {
		w := mustAlloc(t, a, tag, i%4)
		if a.Tag(w) != tag || a.Size(w) != i%4 {
			t.Errorf("Tag, Size = %d, %d, want %d, %d", a.Tag(w), a.Size(w), tag, i%4)
		}
	}
}

func TestAllocLaysAtTopWithNumbers0(t *testing.T) {
	a := arena.New(30)
	for _, size := range []int{0, 1, 2, 7} {
		top := a.Top()
		w := mustAlloc(t, a, 4, size)
		if w != word.Ptr(top+1) || a.Top() != top+1+size {
			t.Errorf("a block of %d at %d: word %d, Top %d", size, top, w, a.Top())
		}
		for i := range size {
			wantField(t, a, w, i, word.Int(0))
		}
	}
}

func TestAllocFillsTheHalfToItsLastCell(t *testing.T) {
	for _, flips := range []int{0, 1} {
		a := arena.New(6)
		for range flips {
			a.Flip()
		}
		mustAlloc(t, a, 0, 2)
		if _, e := a.Alloc(0, 3); e != api.ErrFull {
			t.Errorf("four cells where three are: %d", e)
		}
		w := mustAlloc(t, a, 0, 1)
		last := mustAlloc(t, a, 5, 0)
		if a.Top() != a.Base()+6 {
			t.Errorf("Top = %d", a.Top())
		}
		if _, e := a.Alloc(0, 0); e != api.ErrFull {
			t.Errorf("a head where no cell is: %d", e)
		}
		wantField(t, a, w, 0, word.Int(0))
		wantLeads(t, a, last, last, 0)
		if a.Tag(last) != 5 || a.Size(last) != 0 {
			t.Errorf("Tag, Size of the last = %d, %d", a.Tag(last), a.Size(last))
		}
		if x, e := a.Get(last, 0); x != 0 || e != api.ErrRange {
			t.Errorf("Get of the last = %d, %d", x, e)
		}
	}
}

func TestAllocOfTheGreatestBlock(t *testing.T) {
	a := arena.New(api.MaxSemi)
	var last api.Word
	for range 7 {
		last = mustAlloc(t, a, 1, api.MaxSize)
	}
	if _, e := a.Alloc(1, api.MaxSize); e != api.ErrFull || a.Top() != 7*(api.MaxSize+1) {
		t.Errorf("error %d, Top %d", e, a.Top())
	}
	mustSet(t, a, last, api.MaxSize-1, 8)
	wantField(t, a, last, api.MaxSize-1, 8)
	if e := a.Set(last, api.MaxSize, 8); e != api.ErrRange {
		t.Errorf("Set behind the last field: %d", e)
	}
}

func TestAllocAfterFlipsFindsNothingOfWhatWas(t *testing.T) {
	a := arena.New(8)
	w := mustAlloc(t, a, 0, 7)
	for i := range 7 {
		mustSet(t, a, w, i, api.Word(1000+i))
	}
	a.Flip()
	a.Flip()
	w = mustAlloc(t, a, 0, 7)
	for i := range 7 {
		wantField(t, a, w, i, word.Int(0))
	}
}

// P2.3

func TestLeadsToBlocksAlone(t *testing.T) {
	a := arena.New(12)
	w := mustAlloc(t, a, 7, 3)
	v := mustAlloc(t, a, 8, 1)
	wantLeads(t, a, w, w, 0)
	wantLeads(t, a, v, v, 0)
	for x := api.Word(0); x < 60; x++ {
		if x != w && x != v {
			wantNothing(t, a, x)
		}
	}
	for _, x := range []api.Word{1 << 31, 1<<32 - 2, 1 << 32, w + 1<<32, w + 1<<33, w | 1<<63, w + 1, math.MaxUint64, math.MaxUint64 - 1} {
		wantNothing(t, a, x)
	}
}

func TestTagAndSizeAtAnyDistance(t *testing.T) {
	a := arena.New(12)
	w := mustAlloc(t, a, api.TagClosure, 4)
	mustSet(t, a, w, 1, word.Head(api.TagInner, 2))
	for _, x := range []api.Word{w, w + 4} {
		if a.Tag(x) != api.TagClosure || a.Size(x) != 4 {
			t.Errorf("Tag, Size of %d = %d, %d", x, a.Tag(x), a.Size(x))
		}
	}
}

func TestGetAndSetErrorsInTheirOrder(t *testing.T) {
	a := arena.New(12)
	w := mustAlloc(t, a, 0, 3)
	none := mustAlloc(t, a, 0, 0)
	for _, c := range []struct {
		w    api.Word
		i    int
		want api.Errno
	}{
		{w, 0, api.OK}, {w, 2, api.OK},
		{w, 3, api.ErrRange}, {w, -1, api.ErrRange}, {w, math.MaxInt, api.ErrRange}, {w, math.MinInt, api.ErrRange},
		{none, 0, api.ErrRange}, {none, -1, api.ErrRange},
		{w + 2, 0, api.ErrAddr}, {w + 2, 99, api.ErrAddr}, {0, 0, api.ErrAddr}, {w + 1, -1, api.ErrAddr},
	} {
		if _, e := a.Get(c.w, c.i); e != c.want {
			t.Errorf("Get(%d, %d): %d, want %d", c.w, c.i, e, c.want)
		}
		if e := a.Set(c.w, c.i, word.Int(0)); e != c.want {
			t.Errorf("Set(%d, %d): %d, want %d", c.w, c.i, e, c.want)
		}
	}
	if x, e := a.Get(w, 3); x != 0 || e != api.ErrRange {
		t.Errorf("beside the error stands %d, %d", x, e)
	}
}

func TestAnyWordMayBePut(t *testing.T) {
	a := arena.New(12)
	for _, tag := range []int{0, api.TagLast, api.TagClosure, api.TagText} {
		w := mustAlloc(t, a, tag, 1)
		for _, x := range []api.Word{0, 1, 2, 3, w, w + 1, 1 << 63, math.MaxUint64, word.Head(api.TagInner, 1), word.Head(0, 0)} {
			mustSet(t, a, w, 0, x)
			wantField(t, a, w, 0, x)
			if a.Tag(w) != tag || a.Size(w) != 1 {
				t.Errorf("Tag, Size = %d, %d", a.Tag(w), a.Size(w))
			}
		}
	}
}

func TestInnerSlots(t *testing.T) {
	for _, flips := range []int{0, 1} {
		a := arena.New(40)
		for range flips {
			a.Flip()
		}
		mustAlloc(t, a, 0, 2)
		w := mustAlloc(t, a, api.TagClosure, 8)
		mustAlloc(t, a, 0, 2)
		inner := map[int]int{1: 0, 3: 2, 7: 6} // slot by the field ahead of it
		for slot, ahead := range inner {
			mustSet(t, a, w, ahead, word.Head(api.TagInner, slot))
		}
		for i := 1; i <= 10; i++ {
			x := w + 2*api.Word(i)
			if _, is := inner[i]; is {
				wantLeads(t, a, x, w, i)
			} else if i != 9 { // the next block's address
				wantNothing(t, a, x)
			}
		}
		next := w + 2*9
		wantLeads(t, a, next, next, 0)
	}
}

func TestNoInnerSlots(t *testing.T) {
	for name, c := range map[string]struct {
		tag, field int
		put        api.Word
		slot       int
	}{
		"another tag":              {0, 1, word.Head(api.TagInner, 2), 2},
		"a text":                   {api.TagText, 1, word.Head(api.TagInner, 2), 2},
		"a size too little":        {api.TagClosure, 1, word.Head(api.TagInner, 1), 2},
		"a size too great":         {api.TagClosure, 1, word.Head(api.TagInner, 3), 2},
		"a size of 0":              {api.TagClosure, 1, word.Head(api.TagInner, 0), 2},
		"the greatest size":        {api.TagClosure, 1, word.Head(api.TagInner, math.MaxInt32), 2},
		"a head of another tag":    {api.TagClosure, 1, word.Head(api.TagClosure, 2), 2},
		"no head":                  {api.TagClosure, 1, word.Int(-1), 2},
		"an even word":             {api.TagClosure, 1, word.Head(api.TagInner, 2) - 1, 2},
		"no field behind":          {api.TagClosure, 3, word.Head(api.TagInner, 4), 4},
		"the slot of its own head": {api.TagClosure, 1, word.Head(api.TagInner, 2), 1},
	} {
		a := arena.New(30)
		mustAlloc(t, a, api.TagClosure, 3)
		w := mustAlloc(t, a, c.tag, 4)
		mustSet(t, a, w, c.field, c.put)
		x := w + 2*api.Word(c.slot)
		t.Run(name, func(t *testing.T) { wantNothing(t, a, x) })
	}
}

// What stands in one block makes no inner slot of another one, though the sizes would fit.
func TestInnerSlotsStayWithinTheirBlock(t *testing.T) {
	a := arena.New(30)
	w := mustAlloc(t, a, api.TagClosure, 3)
	v := mustAlloc(t, a, 0, 4)
	distance := int(v-w)/2 + 1
	mustSet(t, a, v, 0, word.Head(api.TagInner, distance))
	wantNothing(t, a, v+2)
	c := mustAlloc(t, a, api.TagClosure, 4)
	mustSet(t, a, c, 2, word.Head(api.TagInner, 3+int(c-w)/2))
	wantNothing(t, a, c+6)
}

func TestGetAndSetThroughAnInnerSlotCountFromTheBlock(t *testing.T) {
	a := arena.New(20)
	w := mustAlloc(t, a, api.TagClosure, 5)
	mustSet(t, a, w, 2, word.Head(api.TagInner, 3))
	mustSet(t, a, w, 0, 100)
	wantField(t, a, w+6, 0, 100)
	mustSet(t, a, w+6, 4, 200)
	wantField(t, a, w, 4, 200)
	if _, e := a.Get(w+6, 5); e != api.ErrRange {
		t.Errorf("Get of field 5: %d", e)
	}
	if _, e := a.Get(w+6, -3); e != api.ErrRange {
		t.Errorf("Get of field -3: %d", e)
	}
	mustSet(t, a, w+6, 2, word.Int(0)) // and now it is none
	wantNothing(t, a, w+6)
}

// P2.4

func TestFlipMakesTheOtherHalfCurrent(t *testing.T) {
	a := arena.New(10)
	w := mustAlloc(t, a, api.TagClosure, 4)
	mustSet(t, a, w, 0, word.Head(api.TagInner, 1))
	last := mustAlloc(t, a, 0, 4)
	a.Flip()
	wantPlaces(t, a, 10, 10)
	for _, x := range []api.Word{w, w + 2, last} {
		wantNothing(t, a, x)
	}
	v := mustAlloc(t, a, 3, 2)
	if v != word.Ptr(11) || a.Half() != 10 {
		t.Errorf("the upper half's first block is %d; Half %d", v, a.Half())
	}
	for _, x := range []api.Word{w, w + 2, last} {
		wantNothing(t, a, x)
	}
	a.Flip()
	wantPlaces(t, a, 0, 0)
	for _, x := range []api.Word{v, w, w + 2, last} {
		wantNothing(t, a, x)
	}
	if x := mustAlloc(t, a, 0, 9); x != 2 {
		t.Errorf("the lower half's first block is %d", x)
	}
	for x := api.Word(4); x < 60; x++ {
		wantNothing(t, a, x)
	}
}

// The word of an empty block at the lower half's end is that of the upper half's first cell, and a block behind its head has the next one.
func TestHalvesDoNotMeet(t *testing.T) {
	a := arena.New(4)
	mustAlloc(t, a, 0, 2)
	last := mustAlloc(t, a, 6, 0)
	if last != word.Ptr(4) || a.Tag(last) != 6 {
		t.Errorf("the last block is %d, of %d", last, a.Tag(last))
	}
	a.Flip()
	wantNothing(t, a, last)
	if w := mustAlloc(t, a, 7, 0); w != word.Ptr(5) {
		t.Errorf("the upper half's first block is %d", w)
	}
	wantNothing(t, a, last)
}

// P2.5

// plainBlock is one of plain's: its fields lie apart from all others.
type plainBlock struct {
	at, tag int
	fields  []api.Word
}

// plain is an arena as the chapter tells it: a list of blocks, each asked in turn.
type plain struct {
	half, base int
	blocks     []plainBlock
}

func (p *plain) top() int {
	top := p.base
	for _, b := range p.blocks {
		top += 1 + len(b.fields)
	}
	return top
}

func (p *plain) alloc(tag, size int) (api.Word, api.Errno) {
	switch top := p.top(); {
	case (tag < 0 || tag > 199) && tag != 200 && tag != 202:
		return 0, api.ErrArg
	case size < 0 || size > 4096:
		return 0, api.ErrRange
	case top+size+1 > p.base+p.half:
		return 0, api.ErrFull
	default:
		b := plainBlock{at: top + 1, tag: tag, fields: make([]api.Word, size)}
		for i := range b.fields {
			b.fields[i] = 1
		}
		p.blocks = append(p.blocks, b)
		return api.Word(2 * b.at), api.OK
	}
}

// leads answers the place of the block in the list; -1: there is none.
func (p *plain) leads(w api.Word) (int, int) {
	for k, b := range p.blocks {
		if w == api.Word(2*b.at) {
			return k, 0
		}
	}
	for k, b := range p.blocks {
		for j := 0; b.tag == 200 && j+1 < len(b.fields); j++ {
			head := api.Word(2*(256*(j+1)+201) + 1)
			if b.fields[j] == head && w == api.Word(2*(b.at+j+1)) {
				return k, j + 1
			}
		}
	}
	return -1, 0
}

// agree holds an arena against a plain one at every word that could lead anywhere, and every field.
func agree(t *testing.T, a *arena.Arena, p *plain) {
	t.Helper()
	var all []api.Word
	for _, b := range p.blocks {
		w := api.Word(2 * b.at)
		all = append(all, w)
		for i, x := range b.fields {
			wantField(t, a, w, i, x)
		}
	}
	wantPlaces(t, a, p.base, p.top(), all...)
	for w := api.Word(0); w < api.Word(4*p.half+6); w++ {
		k, distance := p.leads(w)
		if k < 0 {
			wantLeads(t, a, w, 0, 0)
			continue
		}
		b := p.blocks[k]
		wantLeads(t, a, w, api.Word(2*b.at), distance)
		if a.Tag(w) != b.tag || a.Size(w) != len(b.fields) {
			t.Errorf("Tag, Size of %d = %d, %d, want %d, %d", w, a.Tag(w), a.Size(w), b.tag, len(b.fields))
		}
	}
}

func step(t *testing.T, r *rand.Rand, a *arena.Arena, p *plain) {
	t.Helper()
	switch n := r.Intn(20); {
	case n == 0:
		a.Flip()
		p.base, p.blocks = p.half-p.base, nil
	case n < 7:
		tags := []int{0, 1, 199, 200, 200, 200, 201, 202, -1}
		tag, size := tags[r.Intn(len(tags))], r.Intn(8)-1
		w, e := a.Alloc(tag, size)
		if x, want := p.alloc(tag, size); w != x || e != want {
			t.Errorf("Alloc(%d, %d) = %d, %d, want %d, %d", tag, size, w, e, x, want)
		}
	default:
		w, i, x := api.Word(r.Intn(4*p.half+6)), r.Intn(7)-1, api.Word(r.Intn(200))
		if r.Intn(2) == 0 {
			x = word.Head(api.TagInner, r.Intn(7))
		}
		e := a.Set(w, i, x)
		k, _ := p.leads(w)
		switch {
		case k < 0:
			if e != api.ErrAddr {
				t.Errorf("Set(%d, %d) = %d, want ErrAddr", w, i, e)
			}
		case i < 0 || i >= len(p.blocks[k].fields):
			if e != api.ErrRange {
				t.Errorf("Set(%d, %d) = %d, want ErrRange", w, i, e)
			}
		default:
			p.blocks[k].fields[i] = x
			if e != api.OK {
				t.Errorf("Set(%d, %d) = %d", w, i, e)
			}
		}
	}
}

func TestBlocksNeverShareACell(t *testing.T) {
	for seed := range int64(40) {
		r := rand.New(rand.NewSource(seed))
		half := 2 + r.Intn(30)
		a, p := arena.New(half), &plain{half: half}
		for range 120 {
			step(t, r, a, p)
			agree(t, a, p)
			if t.Failed() {
				t.Fatalf("seed %d", seed)
			}
		}
	}
}

// R1, R5: what holds of all calls

func TestArenasShareNothing(t *testing.T) {
	a, b := arena.New(8), arena.New(8)
	w := mustAlloc(t, a, 1, 2)
	wantPlaces(t, b, 0, 0)
	wantNothing(t, b, w)
	v := mustAlloc(t, b, 2, 2)
	mustSet(t, a, w, 0, 40)
	mustSet(t, b, v, 0, 50)
	wantField(t, a, w, 0, 40)
	b.Flip()
	wantField(t, a, w, 0, 40)
}

func TestAnArenaThatIsNoneHasNoCells(t *testing.T) {
	for _, a := range []*arena.Arena{nil, arena.New(1), {}} {
		for range 2 {
			if a.Half() != 0 {
				t.Errorf("Half = %d", a.Half())
			}
			wantPlaces(t, a, 0, 0)
			for w := range api.Word(6) {
				wantNothing(t, a, w)
			}
			for _, c := range []struct {
				tag, size int
				want      api.Errno
			}{{-1, -1, api.ErrArg}, {0, -1, api.ErrRange}, {0, 0, api.ErrFull}, {0, 9, api.ErrFull}} {
				if x, e := a.Alloc(c.tag, c.size); x != 0 || e != c.want {
					t.Errorf("Alloc(%d, %d) = %d, %d, want error %d", c.tag, c.size, x, e, c.want)
				}
			}
			a.Flip()
		}
	}
}

// Examples

func TestExamples(t *testing.T) {
	a := arena.New(6)
	if w, e := a.Alloc(0, 2); w != 2 || e != api.OK {
		t.Errorf("Alloc(0, 2) = %d, %d", w, e)
	}
	if w, e := a.Alloc(5, 0); w != 8 || e != api.OK {
		t.Errorf("Alloc(5, 0) = %d, %d", w, e)
	}
	if w, e := a.Alloc(0, 2); w != 0 || e != api.ErrFull {
		t.Errorf("Alloc(0, 2) = %d, %d", w, e)
	}
	if a.Top() != 4 {
		t.Errorf("Top = %d", a.Top())
	}
	wantLeads(t, a, 2, 2, 0)
	wantLeads(t, a, 4, 0, 0)
	wantLeads(t, a, 8, 8, 0)
	if a.Tag(8) != 5 || a.Size(3) != -1 {
		t.Errorf("Tag(8), Size(3) = %d, %d", a.Tag(8), a.Size(3))
	}
	a.Flip()
	if a.Base() != 6 {
		t.Errorf("Base = %d", a.Base())
	}
	if w, e := a.Alloc(0, 1); w != 14 || e != api.OK {
		t.Errorf("Alloc(0, 1) = %d, %d", w, e)
	}
	wantLeads(t, a, 2, 0, 0)

	a = arena.New(9)
	if w, e := a.Alloc(api.TagClosure, 4); w != 2 || e != api.OK {
		t.Errorf("Alloc(TagClosure, 4) = %d, %d", w, e)
	}
	if e := a.Set(2, 1, word.Head(api.TagInner, 2)); e != api.OK {
		t.Errorf("Set = %d", e)
	}
	wantLeads(t, a, 6, 2, 2)
}
