package order_test

import (
	"math"
	"math/big"
	"slices"
	"strings"
	"testing"

	"grapnel/api"
	"grapnel/arena"
	"grapnel/mem"
	"grapnel/order"
	"grapnel/text"
	"grapnel/word"
)

// made tells the hash that comes about of what is added, step by step, reckoned without any bound but at the end.
func made(added ...int64) int64 {
	h := big.NewInt(7)
	for _, n := range added {
		h.Mul(h, big.NewInt(31))
		h.Add(h, big.NewInt(n))
	}
	return h.And(h, big.NewInt(1<<30-1)).Int64()
}

// bytesOf is what a text adds.
func bytesOf(s string) []int64 {
	all := []int64{3}
	for i := range min(64, len(s)) {
		all = append(all, int64(s[i]))
	}
	return all
}

func wantHash(t *testing.T, a *arena.Arena, v api.Word, room int, n int64) {
	t.Helper()
	before := seen(a)
	if h, e := order.Hash(a, v, room); h != word.Int(n) || e != api.OK {
		t.Errorf("Hash(%d, %d) = %d (%d), %d, want %d", v, room, h, word.Num(h), e, n)
	}
	if !slices.Equal(seen(a), before) {
		t.Errorf("Hash(%d) changed the arena", v)
	}
}

func wantNoHash(t *testing.T, a *arena.Arena, v api.Word, room int, fault api.Errno) {
	t.Helper()
	before := seen(a)
	if h, e := order.Hash(a, v, room); h != 0 || e != fault {
		t.Errorf("Hash(%d, %d) = %d, %d, want 0, %d", v, room, h, e, fault)
	}
	if !slices.Equal(seen(a), before) {
		t.Errorf("Hash(%d) changed the arena", v)
	}
}

// P6.2

func TestHashOfNumbers(t *testing.T) {
	a := arena.New(2)
	for _, n := range []int64{0, 1, 5, -1, -7, -217, -218, 1<<30 - 218, 1<<30 - 217, 1 << 31, 1<<62 - 1, -1 << 62, 1<<62 - 1 - 216} {
		for _, room := range []int{0, -1, math.MinInt, 1, most} {
			wantHash(t, a, word.Int(n), room, made(n))
		}
	}
	wantHash(t, a, word.Int(5), 0, 222)
	wantHash(t, a, word.Int(-1), 0, 216)
	wantHash(t, a, word.Int(-217), 0, 0)
	wantHash(t, a, word.Int(-218), 0, 1<<30-1)
}

func TestHashOfTexts(t *testing.T) {
	m := mem.New(1200)
	a := m.Arena()
	long := strings.Repeat("\x00\x7f\x80\xffsome", 8)
	if len(long) != 64 {
		t.Fatal(len(long))
	}
	all := []string{"", "a", "\x00", "\x00\x00", "\xff", "abcdefg", "abcdefgh", "abcdefghi", long[:62], long[:63], long, long + "x", long + "y", long + strings.Repeat("x", 500), strings.Repeat("z", api.MaxText)}
	for _, s := range all {
		m.Force(nil)
		for _, room := range []int{0, -1, math.MinInt, most} {
			wantHash(t, a, mustLay(t, m, s), room, made(bytesOf(s)...))
			m.Force(nil)
		}
	}
	wantHash(t, a, mustLay(t, m, "a"), 0, (7*31+3)*31+97)
	if made(bytesOf(long)...) != made(bytesOf(long+"x")...) || made(bytesOf(long)...) == made(bytesOf(long[:63])...) {
		t.Error("the first 64 bytes make the hash")
	}
}

func TestHashOfBlocks(t *testing.T) {
	m := mem.New(300)
	a := m.Arena()
	wantHash(t, a, mustAlloc(t, a, 0), 0, made(0))
	wantHash(t, a, mustAlloc(t, a, 1), 0, made(5))
	wantHash(t, a, mustAlloc(t, a, api.TagLast), 0, made(5*api.TagLast))
	wantHash(t, a, mustAlloc(t, a, 2, numbers(0, 4, 0)...), 3, made(13, 0, 4, 0))
	wantHash(t, a, mustAlloc(t, a, 0, numbers(-3)...), 1, made(1, -3))
	// The queue is gone through in order: a block's fields come behind all that stand there already.
	inner := mustAlloc(t, a, 7, word.Int(1), mustLay(t, m, "ab"))
	v := mustAlloc(t, a, 9, inner, word.Int(2), mustAlloc(t, a, 8, numbers(6)...), word.Int(3))
	wantHash(t, a, v, 5, made(49, 37, 2, 41, 3, 1, 3, 'a', 'b', 6))
	// What stands there twice is taken twice.
	wantHash(t, a, mustAlloc(t, a, 0, inner, inner), 4, made(2, 37, 37, 1, 3, 'a', 'b', 1, 3, 'a', 'b'))
}

func TestHashRoomsAroundEachBound(t *testing.T) {
	a := arena.New(2 * (api.MaxSize + 1))
	for _, n := range []int{0, 1, 2, 3, 23, 24, 25, 100, api.MaxSize} {
		a.Flip()
		v := mustAlloc(t, a, 0, numbers(make([]int64, n)...)...)
		for _, room := range []int{math.MinInt, -1, n - 1} {
			wantNoHash(t, a, v, room, api.ErrStack)
		}
		added := append([]int64{int64(n)}, make([]int64, min(n, 23))...)
		for _, room := range []int{n, n + 1, most} {
			wantHash(t, a, v, room, made(added...))
		}
	}
}

// What was taken out makes room, and a number that was taken out counts no more.
func TestHashRoomIsWhatIsInTheQueue(t *testing.T) {
	a := arena.New(200)
	v := word.Int(5)
	for range 10 {
		v = mustAlloc(t, a, 0, word.Int(1), v)
	}
	wantHash(t, a, v, 2, made(2, 1, 2, 1, 2, 1, 2, 1, 2, 1, 2, 1, 2, 1, 2, 1, 2, 1, 2, 1, 5))
	wantNoHash(t, a, v, 1, api.ErrStack)
	// First the block, so that what stands behind it is still there: three words.
	w := mustAlloc(t, a, 0, mustAlloc(t, a, 0, numbers(1, 2)...), word.Int(3))
	wantHash(t, a, w, 3, made(2, 2, 3, 1, 2))
	wantNoHash(t, a, w, 2, api.ErrStack)
}

func TestHashTakesTwentyFourWords(t *testing.T) {
	for _, n := range []int{22, 23, 24, 25, 200} {
		a := arena.New(1000)
		f, _ := closure(t, a)
		fields := make([]int64, n)
		for i := range fields {
			fields[i] = int64(100 + i)
		}
		added := append([]int64{int64(n)}, fields[:min(n, 23)]...)
		wantHash(t, a, mustAlloc(t, a, 0, numbers(fields...)...), n, made(added...))
		if n <= 23 {
			continue
		}
		// What comes behind the 24th may be whatever it is.
		for i, bad := range []api.Word{f, 0} {
			l := numbers(fields...)
			l[23] = bad
			wantHash(t, a, mustAlloc(t, a, 0, l...), n, made(added...))
			l[22] = bad
			wantNoHash(t, a, mustAlloc(t, a, 0, l...), n, []api.Errno{api.ErrFun, api.ErrAddr}[i])
			a.Flip()
			f, _ = closure(t, a)
		}
	}
}

// The fields of the 24th word go to the queue, too, though nobody takes them out any more.
func TestHashTheLastWordsFieldsNeedRoom(t *testing.T) {
	a := arena.New(100)
	bad := mustAlloc(t, a, 6, 0, 0, 0)
	l := numbers(make([]int64, 23)...)
	l[22] = bad
	v := mustAlloc(t, a, 0, l...)
	wantHash(t, a, v, 23, made(append([]int64{23}, append(make([]int64, 22), 33)...)...))
	// Of a list the queue has few words: those of the last block alone.
	w := bad
	for range 23 {
		w = mustAlloc(t, a, 1, w)
	}
	wantHash(t, a, w, 3, made(append(slices.Repeat([]int64{6}, 23), 33)...))
	wantNoHash(t, a, w, 2, api.ErrStack)
	w = mustAlloc(t, a, 1, w)
	wantHash(t, a, w, 1, made(slices.Repeat([]int64{6}, 24)...))
}

func TestHashOfCircles(t *testing.T) {
	a := arena.New(20)
	z := mustAlloc(t, a, 1, 0)
	a.Set(z, 0, z)
	wantHash(t, a, z, 1, made(slices.Repeat([]int64{6}, 24)...))
	wantNoHash(t, a, z, 0, api.ErrStack)
	y := mustAlloc(t, a, 0, 0, 0)
	a.Set(y, 0, y)
	a.Set(y, 1, y)
	wantHash(t, a, y, 25, made(slices.Repeat([]int64{2}, 24)...))
	wantNoHash(t, a, y, 24, api.ErrStack)
}

func TestHashFaults(t *testing.T) {
	m := mem.New(200)
	a := m.Arena()
	f, inner := closure(t, a)
	none, empty := noText(t, a), mustAlloc(t, a, api.TagText)
	for _, room := range []int{math.MinInt, 0, most} {
		wantNoHash(t, a, f, room, api.ErrFun)
		wantNoHash(t, a, inner, room, api.ErrFun)
		for _, bad := range []api.Word{0, none, empty, none + 2, f - 2, f + 2, 1 << 40, math.MaxUint64 - 1} {
			wantNoHash(t, a, bad, room, api.ErrAddr)
		}
	}
	// The first one that is come to is told.
	wantNoHash(t, a, mustAlloc(t, a, 0, word.Int(1), none, f), 3, api.ErrAddr)
	wantNoHash(t, a, mustAlloc(t, a, 0, word.Int(1), inner, none), 3, api.ErrFun)
	wantNoHash(t, a, mustAlloc(t, a, 0, word.Int(1), f), 1, api.ErrStack)
	wantNoHash(t, a, mustAlloc(t, a, 0, f, mustAlloc(t, a, 0, numbers(1, 2, 3)...)), 2, api.ErrFun)
}

func TestHashOfATextOfMoreThanLayTakes(t *testing.T) {
	a := arena.New(api.MaxSemi)
	w := mustAlloc(t, a, api.TagText, make([]api.Word, api.MaxSize)...)
	wantHash(t, a, w, 0, made(append([]int64{3}, make([]int64, 64)...)...))
	for i, want := range []int64{made(append(append([]int64{3}, make([]int64, 63)...), 9)...), made(append([]int64{3}, make([]int64, 64)...)...)} {
		if e := text.Put(a, w, 63+i, 9); e != api.OK {
			t.Fatalf("Put: error %d", e)
		}
		wantHash(t, a, w, 0, want)
		text.Put(a, w, 63, 0)
	}
}
