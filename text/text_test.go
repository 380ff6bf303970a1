package text_test

import (
	"math"
	"slices"
	"strings"
	"testing"

	"grapnel/api"
	"grapnel/arena"
	"grapnel/mem"
	"grapnel/text"
	"grapnel/word"
)

func words(all ...api.Word) []api.Word { return all }

// shape is the fields of a text as the chapter tells them, reckoned byte by byte.
func shape(s string) []api.Word {
	fields := make([]api.Word, len(s)/8+1)
	for i := range 8 * len(fields) {
		c := api.Word(0)
		switch {
		case i < len(s):
			c = api.Word(s[i])
		case i == 8*len(fields)-1:
			c = api.Word(7 - len(s)%8)
		}
		for range i % 8 {
			c *= 256
		}
		fields[i/8] += c
	}
	return fields
}

// pattern makes up n bytes, no two neighbours alike, noughts and bytes above 127 among them.
func pattern(n int) string {
	all := make([]byte, n)
	for i := range all {
		all[i] = byte(i*37 + i/256)
	}
	return string(all)
}

// lengths are those around each of the first multiples of eight, and around the greatest.
func lengths() []int {
	var all []int
	for n := range 50 {
		all = append(all, n)
	}
	for n := api.MaxText - 17; n <= api.MaxText; n++ {
		all = append(all, n)
	}
	return all
}

func mustLay(t *testing.T, m *mem.Mem, s string) api.Word {
	t.Helper()
	w, now, e := text.Lay(m, s, nil)
	if e != api.OK || len(now) != 0 {
		t.Fatalf("Lay(%q) = %d, %v, %d", s, w, now, e)
	}
	return w
}

// mustAlloc lays a block with these fields, whatever they are.
func mustAlloc(t *testing.T, a *arena.Arena, tag int, fields ...api.Word) api.Word {
	t.Helper()
	w, e := a.Alloc(tag, len(fields))
	if e != api.OK {
		t.Fatalf("Alloc(%d, %d): error %d", tag, len(fields), e)
	}
	for i, x := range fields {
		if e := a.Set(w, i, x); e != api.OK {
			t.Fatalf("Set(%d, %d): error %d", w, i, e)
		}
	}
	return w
}

func fieldsOf(a *arena.Arena, w api.Word) []api.Word {
	var all []api.Word
	for i := range a.Size(w) {
		x, _ := a.Get(w, i)
		all = append(all, x)
	}
	return all
}

// seen is all that may be seen of an arena, as one list.
func seen(a *arena.Arena) []api.Word {
	all := words(api.Word(a.Half()), api.Word(a.Base()), api.Word(a.Top()))
	for _, w := range a.Blocks() {
		all = append(all, w, api.Word(a.Tag(w)), api.Word(a.Size(w)))
		all = append(all, fieldsOf(a, w)...)
	}
	return all
}

// wantRead holds what all that read tell of a word against a text.
func wantRead(t *testing.T, a *arena.Arena, w api.Word, want string) {
	t.Helper()
	if s, e := text.Read(a, w); s != want || e != api.OK {
		t.Errorf("Read(%d) = %q, %d, want %q", w, s, e, want)
	}
	if n, e := text.Length(a, w); n != len(want) || e != api.OK {
		t.Errorf("Length(%d) = %d, %d, want %d", w, n, e, len(want))
	}
	for i := range len(want) {
		if c, e := text.Byte(a, w, i); c != want[i] || e != api.OK {
			t.Errorf("Byte(%d, %d) = %d, %d, want %d", w, i, c, e, want[i])
		}
	}
}

// wantText does so too, and asks for bytes that the text doesn't have.
func wantText(t *testing.T, a *arena.Arena, w api.Word, want string) {
	t.Helper()
	wantRead(t, a, w, want)
	for _, i := range []int{math.MinInt, -9, -8, -1, len(want), len(want) + 1, len(want) + 8, math.MaxInt} {
		wantNoByte(t, a, w, i, api.ErrRange)
	}
}

func wantFields(t *testing.T, a *arena.Arena, w api.Word, want ...api.Word) {
	t.Helper()
	if got := fieldsOf(a, w); a.Tag(w) != api.TagText || !slices.Equal(got, want) {
		t.Errorf("block %d: tag %d, fields %x, want %x", w, a.Tag(w), got, want)
	}
}

// wantNoByte holds Byte and Put against an error; nothing changes.
func wantNoByte(t *testing.T, a *arena.Arena, w api.Word, i int, want api.Errno) {
	t.Helper()
	was := seen(a)
	if c, e := text.Byte(a, w, i); c != 0 || e != want {
		t.Errorf("Byte(%d, %d) = %d, %d, want error %d alone", w, i, c, e, want)
	}
	if e := text.Put(a, w, i, 'x'); e != want {
		t.Errorf("Put(%d, %d) = %d, want %d", w, i, e, want)
	}
	if !slices.Equal(seen(a), was) {
		t.Errorf("Put(%d, %d) changed the cells", w, i)
	}
}

// wantNone holds all that read against an error, at whatever byte.
func wantNone(t *testing.T, a *arena.Arena, w api.Word, want api.Errno) {
	t.Helper()
	if s, e := text.Read(a, w); s != "" || e != want {
		t.Errorf("Read(%d) = %q, %d, want error %d alone", w, s, e, want)
	}
	if n, e := text.Length(a, w); n != 0 || e != want {
		t.Errorf("Length(%d) = %d, %d, want error %d alone", w, n, e, want)
	}
	for _, i := range []int{math.MinInt, -1, 0, 1, 7, 8, math.MaxInt} {
		wantNoByte(t, a, w, i, want)
	}
}

// wantRefused holds a Lay against an error; nothing changes.
func wantRefused(t *testing.T, m *mem.Mem, s string, roots []api.Word, want api.Errno) {
	t.Helper()
	was, count := seen(m.Arena()), m.Count()
	w, now, e := text.Lay(m, s, roots)
	if w != 0 || len(now) != 0 || e != want {
		t.Errorf("Lay of %d bytes = %d, %v, %d, want error %d alone", len(s), w, now, e, want)
	}
	if !slices.Equal(seen(m.Arena()), was) || m.Count() != count {
		t.Errorf("Lay of %d bytes changed the cells", len(s))
	}
}

// The examples

func TestExamples(t *testing.T) {
	m := mem.New(40)
	a := m.Arena()
	w := mustLay(t, m, "abc")
	if word.Addr(w) != 1 || a.Size(w) != 1 {
		t.Errorf("address %d, size %d", word.Addr(w), a.Size(w))
	}
	wantFields(t, a, w, 0x0400000000636261)
	wantFields(t, a, mustLay(t, m, "abcdefgh"), 0x6867666564636261, 0x0700000000000000)
	if e := text.Put(a, w, 2, 'x'); e != api.OK {
		t.Errorf("Put(w, 2): %d", e)
	}
	wantText(t, a, w, "abx")
	if e := text.Put(a, w, 3, 'x'); e != api.ErrRange {
		t.Errorf("Put(w, 3): %d", e)
	}
	wantNone(t, a, mustAlloc(t, a, 0, 1), api.ErrForm)
	wantNone(t, a, 7, api.ErrAddr)
}

// P5.1

func TestLayMakesTheTextsFields(t *testing.T) {
	for _, n := range lengths() {
		for _, s := range []string{pattern(n), strings.Repeat("\x00", n), strings.Repeat("\xff", n), strings.Repeat("\x07", n)} {
			m := mem.New(600)
			w := mustLay(t, m, s)
			if w != 2 || m.Arena().Top() != len(s)/8+2 || m.Count() != 0 {
				t.Errorf("%d bytes: block %d, Top %d, %d collections", n, w, m.Arena().Top(), m.Count())
			}
			wantFields(t, m.Arena(), w, shape(s)...)
		}
	}
}

func TestFieldsOfShortTexts(t *testing.T) {
	m := mem.New(40)
	for _, c := range []struct {
		s    string
		want []api.Word
	}{
		{"", words(0x0700000000000000)},
		{"\x00", words(0x0600000000000000)},
		{"\x00\x00\x00\x00\x00\x00\x00", words(0)},
		{"abcdef", words(0x0100666564636261)},
		{"abcdefg", words(0x0067666564636261)},
		{"\x00\x00\x00\x00\x00\x00\x00\x00", words(0, 0x0700000000000000)},
		{"abcdefghi", words(0x6867666564636261, 0x0600000000000069)},
		{"\xff\xff\xff\xff\xff\xff\xff\xff\xff", words(math.MaxUint64, 0x06000000000000ff)},
		{"\u00e4\u20ac", words(0x020000ac82e2a4c3)},
	} {
		wantFields(t, m.Arena(), mustLay(t, m, c.s), c.want...)
	}
}

func TestLayRefusesTooManyBytes(t *testing.T) {
	for _, m := range []*mem.Mem{mem.New(api.MaxSemi), mem.New(2), nil} {
		for _, n := range []int{api.MaxText + 1, api.MaxText + 2, api.MaxText + 8, 8 * api.MaxSize, 1 << 20} {
			wantRefused(t, m, strings.Repeat("a", n), words(2), api.ErrBytes)
		}
	}
}

func TestLayIsFullJustIfItCannotFit(t *testing.T) {
	for half := 2; half < 9; half++ {
		for n := range 70 {
			m, s := mem.New(half), pattern(n)
			if n/8+2 > half {
				wantRefused(t, m, s, nil, api.ErrFull)
				continue
			}
			wantText(t, m.Arena(), mustLay(t, m, s), s)
		}
	}
	m := mem.New(512 + 1)
	wantRefused(t, m, pattern(api.MaxText), nil, api.ErrFull)
	wantText(t, m.Arena(), mustLay(t, m, pattern(api.MaxText-1)), pattern(api.MaxText-1))
	wantRefused(t, m, "", words(2), api.ErrFull)
	m = mem.New(512 + 2)
	mustLay(t, m, pattern(api.MaxText))
	wantRefused(t, m, "", words(2), api.ErrFull)
	wantRefused(t, m, strings.Repeat("a", api.MaxText+1), words(2), api.ErrBytes)
}

func TestLayCollectsWhereThereIsNoRoom(t *testing.T) {
	m := mem.New(9)
	mustLay(t, m, "gone")
	kept := mustLay(t, m, "kept and longer")
	block := mustAlloc(t, m.Arena(), 3, kept, word.Int(5))
	roots := words(block, 7, kept, block)
	w, now, e := text.Lay(m, "new", roots)
	if w != word.Ptr(16) || e != api.OK || !slices.Equal(now, words(20, 7, 26, 20)) || m.Count() != 1 {
		t.Fatalf("Lay = %d, %v, %d; %d collections", w, now, e, m.Count())
	}
	wantText(t, m.Arena(), w, "new")
	wantText(t, m.Arena(), now[2], "kept and longer")
	if got := fieldsOf(m.Arena(), now[0]); !slices.Equal(got, words(26, word.Int(5))) {
		t.Errorf("the block has %v", got)
	}
	if !slices.Equal(roots, words(block, 7, kept, block)) {
		t.Errorf("the roots that were handed in are %v", roots)
	}
	wantRefused(t, m, "12345678", append(now, w), api.ErrFull)
}

func TestLayTellsTheRootsAsTheyAre(t *testing.T) {
	m := mem.New(20)
	v := mustLay(t, m, "v")
	roots := words(v, 0, 1, 99, v+2, math.MaxUint64)
	w, now, e := text.Lay(m, "w", roots)
	if w != 6 || e != api.OK || !slices.Equal(now, roots) || m.Count() != 0 {
		t.Errorf("Lay = %d, %v, %d", w, now, e)
	}
	now[0] = 5
	if roots[0] != v {
		t.Error("the roots share the answer")
	}
}

// P5.2

func TestWordsThatLeadToNothingOrAtADistance(t *testing.T) {
	m := mem.New(40)
	a := m.Arena()
	w := mustLay(t, m, pattern(20))
	closure := mustAlloc(t, a, api.TagClosure, word.Head(api.TagInner, 1), 0x0700000000000000, 0)
	for _, x := range words(0, 1, 7, w-1, w+1, w+2, w+4, w+6, closure+4, w+1<<32, w|1<<63, math.MaxUint64, word.Ptr(41)) {
		wantNone(t, a, x, api.ErrAddr)
	}
	if block, distance := a.Leads(closure + 2); block != closure || distance != 1 {
		t.Fatalf("no inner slot: %d, %d", block, distance)
	}
	wantNone(t, a, closure+2, api.ErrAddr)
	wantNone(t, a, closure, api.ErrForm)
	m.Force(nil)
	wantNone(t, a, w, api.ErrAddr)
}

func TestBlocksOfOtherTagsHoldNoText(t *testing.T) {
	a := arena.New(2000)
	for _, tag := range []int{0, 1, api.TagLast, api.TagClosure} {
		for _, n := range []int{0, 3, 7, 8, 20} {
			wantNone(t, a, mustAlloc(t, a, tag, shape(pattern(n))...), api.ErrForm)
		}
		wantNone(t, a, mustAlloc(t, a, tag), api.ErrForm)
	}
}

func TestBlocksOfTagTextThatHoldNoText(t *testing.T) {
	a := arena.New(api.MaxSemi)
	wantNone(t, a, mustAlloc(t, a, api.TagText), api.ErrForm)
	wantNone(t, a, mustAlloc(t, a, api.TagText, 0x0800000000000000), api.ErrForm)
	for left := api.Word(8); left < 256; left++ {
		wantNone(t, a, mustAlloc(t, a, api.TagText, left<<56), api.ErrForm)
		wantNone(t, a, mustAlloc(t, a, api.TagText, 0x0700000000000000, left<<56), api.ErrForm)
	}
	// What fills up is noughts: any other byte there, and any bit of it, spoils it.
	for left := range api.Word(8) {
		for at := 7 - left; at < 7; at++ {
			for bit := range api.Word(8) {
				last := left<<56 | 1<<(8*at+bit)
				wantNone(t, a, mustAlloc(t, a, api.TagText, last), api.ErrForm)
				wantNone(t, a, mustAlloc(t, a, api.TagText, 0x0700000000000000, last), api.ErrForm)
			}
		}
	}
}

// Each word that may be a text's last field, ahead of whatever: the eight places where a text may end in it.
func TestBlocksThatHoldATextThoughNobodyLaidIt(t *testing.T) {
	a := arena.New(200)
	for left := range 8 {
		for _, ahead := range [][]api.Word{nil, words(0), words(math.MaxUint64, 0x0800000000000000)} {
			bytes := pattern(8*len(ahead) + 7 - left)
			fields := shape(bytes)
			for i, x := range ahead {
				fields[i] = x
			}
			w := mustAlloc(t, a, api.TagText, fields...)
			want := strings.Builder{}
			for _, x := range ahead {
				for i := range 8 {
					want.WriteByte(byte(x >> (8 * i)))
				}
			}
			want.WriteString(bytes[8*len(ahead):])
			wantText(t, a, w, want.String())
		}
	}
	fresh, _ := a.Alloc(api.TagText, 2) // all its fields are the word of 0, which has a bit
	wantText(t, a, fresh, "\x01\x00\x00\x00\x00\x00\x00\x00\x01\x00\x00\x00\x00\x00\x00")
}

// What makes a text has no bound but the block's: Lay alone refuses more than MaxText bytes.
func TestTextsOfMoreBytesThanMayBeLaid(t *testing.T) {
	a := arena.New(api.MaxSemi)
	for _, n := range []int{api.MaxText + 1, api.MaxText + 7, api.MaxText + 8, 8*api.MaxSize - 8, 8*api.MaxSize - 1} {
		s := pattern(n)
		w := mustAlloc(t, a, api.TagText, shape(s)...)
		if got, e := text.Read(a, w); got != s || e != api.OK {
			t.Errorf("%d bytes: %d of them are read, error %d", n, len(got), e)
		}
		if got, e := text.Length(a, w); got != n || e != api.OK {
			t.Errorf("%d bytes: %d, %d", n, got, e)
		}
		if c, e := text.Byte(a, w, n-1); c != s[n-1] || e != api.OK {
			t.Errorf("%d bytes: the last one is %d, %d", n, c, e)
		}
		if e := text.Put(a, w, n-1, 'z'); e != api.OK {
			t.Errorf("%d bytes: Put: %d", n, e)
		}
		wantNoByte(t, a, w, n, api.ErrRange)
		wantFields(t, a, w, shape(s[:n-1]+"z")...)
	}
}

func TestPutChangesOneByteAlone(t *testing.T) {
	for n := 1; n < 26; n++ {
		for i := range n {
			for _, c := range []byte{0, 1, 7, 127, 128, 255} {
				m := mem.New(30)
				a := m.Arena()
				before := mustLay(t, m, pattern(8))
				w := mustLay(t, m, pattern(n))
				behind := mustLay(t, m, pattern(9))
				if e := text.Put(a, w, i, c); e != api.OK {
					t.Fatalf("Put(%d, %d): %d", w, i, e)
				}
				want := []byte(pattern(n))
				want[i] = c
				wantFields(t, a, w, shape(string(want))...)
				wantText(t, a, w, string(want))
				wantFields(t, a, before, shape(pattern(8))...)
				wantFields(t, a, behind, shape(pattern(9))...)
			}
		}
	}
}

func TestAnEmptyTextHasNoByte(t *testing.T) {
	m := mem.New(10)
	w := mustLay(t, m, "")
	wantText(t, m.Arena(), w, "")
	wantFields(t, m.Arena(), w, 0x0700000000000000)
}

func TestReadingChangesNothing(t *testing.T) {
	m := mem.New(40)
	a := m.Arena()
	w := mustLay(t, m, pattern(30))
	was := seen(a)
	wantText(t, a, w, pattern(30))
	if !slices.Equal(seen(a), was) || m.Count() != 0 {
		t.Error("the cells are others now")
	}
}

// R1: what is no arena or no Mem

func TestWithoutCells(t *testing.T) {
	for _, a := range []*arena.Arena{nil, {}, arena.New(1)} {
		for _, w := range words(0, 1, 2, 4) {
			wantNone(t, a, w, api.ErrAddr)
		}
	}
	for _, m := range []*mem.Mem{nil, {}, mem.New(1)} {
		wantRefused(t, m, "", nil, api.ErrFull)
		wantRefused(t, m, "abc", words(2), api.ErrFull)
	}
}
