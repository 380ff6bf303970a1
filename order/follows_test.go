package order_test

import (
	"math/rand"
	"strings"
	"testing"

	"grapnel/api"
	"grapnel/arena"
	"grapnel/mem"
	"grapnel/order"
	"grapnel/word"
)

// value is what a word stands for, apart from any arena. Two that are one pointer are one block.
type value struct {
	kind   int
	n      int64
	s      string
	fields []*value
}

const (
	aNumber = iota
	aBlock
	aText
	aFunction
	aNothing
)

// random makes up a value of up to that depth: from few numbers and texts, so that many are alike. Some of what it makes is taken again.
func random(r *rand.Rand, depth int, pool *[]*value, faults bool) *value {
	if len(*pool) > 0 && r.Intn(5) == 0 {
		return (*pool)[r.Intn(len(*pool))]
	}
	v := &value{}
	switch k := r.Intn(20); {
	case faults && k == 0:
		v.kind = aFunction
	case faults && k == 1:
		v.kind = aNothing
	case k < 7 || depth == 0:
		v.n = int64(r.Intn(3)) - 1
	case k < 9:
		v.kind, v.s = aText, strings.Repeat("ab", 40)[:r.Intn(3)]
	default:
		v.kind, v.n = aBlock, int64(r.Intn(2))
		for range r.Intn(4) {
			v.fields = append(v.fields, random(r, depth-1, pool, faults))
		}
	}
	*pool = append(*pool, v)
	return v
}

// lay lays a value, each block once.
func (v *value) lay(t *testing.T, m *mem.Mem, laid map[*value]api.Word) api.Word {
	t.Helper()
	if w, is := laid[v]; is {
		return w
	}
	w := word.Int(v.n)
	switch v.kind {
	case aText:
		w = mustLay(t, m, v.s)
	case aFunction:
		w = mustAlloc(t, m.Arena(), api.TagClosure, word.Int(1))
	case aNothing:
		w = 0
	case aBlock:
		var fields []api.Word
		for _, x := range v.fields {
			fields = append(fields, x.lay(t, m, laid))
		}
		w = mustAlloc(t, m.Arena(), int(v.n), fields...)
	}
	laid[v] = w
	return w
}

// look goes through two values as the chapter tells it, by calls instead of a work of pairs.
type look struct {
	room  int
	steps int64
	taken int64
	e     api.Errno
}

// at holds two against each other while so many pairs wait beneath.
func (l *look) at(v, w *value, waiting int) int {
	if l.taken == l.steps {
		l.e = api.ErrSteps
		return 0
	}
	l.taken++
	switch {
	case v.kind == aFunction || w.kind == aFunction:
		l.e = api.ErrFun
	case v.kind == aNothing || w.kind == aNothing:
		l.e = api.ErrAddr
	case v.kind != w.kind: // numbers, blocks, texts, in this order
		return way(v.kind < w.kind)
	case v == w:
	case v.kind == aText:
		return strings.Compare(v.s, w.s)
	case v.n != w.n:
		return way(v.n < w.n)
	case len(v.fields) != len(w.fields):
		return way(len(v.fields) < len(w.fields))
	case v.kind == aBlock && 2*(waiting+len(v.fields)) > l.room && len(v.fields) > 0:
		l.e = api.ErrStack
	default:
		return l.inner(v, w, waiting)
	}
	return 0
}

func (l *look) inner(v, w *value, waiting int) int {
	for i := range v.fields {
		if told := l.at(v.fields[i], w.fields[i], waiting+len(v.fields)-1-i); told != 0 || l.e != api.OK {
			return told
		}
	}
	return 0
}

func way(less bool) int {
	if less {
		return -1
	}
	return 1
}

// added is what a value's hash is made of.
func (v *value) added(room int) ([]int64, api.Errno) {
	var all []int64
	queue := []*value{v}
	for taken := 0; len(queue) > 0 && taken < 24; taken++ {
		v, queue = queue[0], queue[1:]
		switch v.kind {
		case aNumber:
			all = append(all, v.n)
		case aText:
			all = append(all, bytesOf(v.s)...)
		case aFunction:
			return nil, api.ErrFun
		case aNothing:
			return nil, api.ErrAddr
		case aBlock:
			all = append(all, 5*v.n+int64(len(v.fields)))
			queue = append(queue, v.fields...)
			if len(queue) > room {
				return nil, api.ErrStack
			}
		}
	}
	return all, api.OK
}

// P6.1 and P6.2 along values that are made up, at rooms and steps around what they need.
func TestValuesAtRandom(t *testing.T) {
	came := map[api.Errno]int{}
	told := map[int]int{}
	for seed := range int64(4000) {
		r := rand.New(rand.NewSource(seed))
		var pool []*value
		faults := r.Intn(2) == 0
		v := random(r, 4, &pool, faults)
		w := random(r, 4, &pool, faults)
		if v.kind == aBlock && r.Intn(2) == 0 {
			w = copyOf(v)
			change(r, w)
		}
		m := mem.New(4000)
		laid := map[*value]api.Word{}
		x, y := v.lay(t, m, laid), w.lay(t, m, laid)
		for range 10 {
			l := &look{room: 2 + r.Intn(30), steps: int64(r.Intn(60))}
			n := l.at(v, w, 0)
			ask(t, m.Arena(), x, y, l.room, l.steps, n, l.taken, l.e)
			came[l.e]++
			told[n]++
			room := r.Intn(30)
			all, e := v.added(room)
			if e == api.OK {
				wantHash(t, m.Arena(), x, room, made(all...))
			} else {
				wantNoHash(t, m.Arena(), x, room, e)
			}
		}
		if t.Failed() {
			t.Fatalf("seed %d", seed)
		}
	}
	for _, e := range []api.Errno{api.OK, api.ErrStack, api.ErrFun, api.ErrSteps, api.ErrAddr} {
		if came[e] < 100 {
			t.Errorf("error %d came %d times", e, came[e])
		}
	}
	for n := -1; n <= 1; n++ {
		if told[n] < 100 {
			t.Errorf("%d was told %d times", n, told[n])
		}
	}
}

// copyOf shares nothing with a value, and doesn't differ from it.
func copyOf(v *value) *value {
	c := &value{kind: v.kind, n: v.n, s: v.s}
	for _, x := range v.fields {
		c.fields = append(c.fields, copyOf(x))
	}
	return c
}

// change makes another value of one, or leaves it.
func change(r *rand.Rand, v *value) {
	for len(v.fields) > 0 && r.Intn(4) > 0 {
		v = v.fields[r.Intn(len(v.fields))]
	}
	if v.kind == aNumber || v.kind == aBlock {
		v.n = int64(r.Intn(2))
	}
}

// P6.3

// many makes up values and lays them.
func many(t *testing.T, seed int64, n int) (*mem.Mem, []*value, []api.Word) {
	r := rand.New(rand.NewSource(seed))
	m := mem.New(api.MaxSemi)
	laid := map[*value]api.Word{}
	var values, pool []*value
	var all []api.Word
	for range n {
		v := random(r, 3, &pool, false)
		if r.Intn(3) == 0 {
			v = copyOf(v)
		}
		values, all = append(values, v), append(all, v.lay(t, m, laid))
	}
	return m, values, all
}

func compare(t *testing.T, a *arena.Arena, v, w api.Word) int {
	t.Helper()
	n, _, e := order.Compare(a, v, w, much, much)
	if e != api.OK || n < -1 || n > 1 {
		t.Fatalf("Compare(%d, %d) = %d, %d", v, w, n, e)
	}
	return n
}

func hash(t *testing.T, a *arena.Arena, v api.Word) api.Word {
	t.Helper()
	h, e := order.Hash(a, v, much)
	if n := word.Num(h); e != api.OK || !word.IsInt(h) || n < 0 || n >= 1<<30 {
		t.Fatalf("Hash(%d) = %d, %d", v, h, e)
	}
	return h
}

func TestItIsAnOrder(t *testing.T) {
	for seed := range int64(10) {
		m, _, all := many(t, seed, 50)
		a := m.Arena()
		told := make([][]int, len(all))
		alike := 0
		for i, v := range all {
			for k, w := range all {
				told[i] = append(told[i], compare(t, a, v, w))
				if told[i][k] == 0 && v != w {
					alike++
				}
				if told[i][k] == 0 && hash(t, a, v) != hash(t, a, w) {
					t.Fatalf("%d and %d don't differ, and their hashes do", v, w)
				}
			}
		}
		if alike == 0 {
			t.Error("nobody is like another one")
		}
		wantOrder(t, told)
	}
}

func wantOrder(t *testing.T, told [][]int) {
	t.Helper()
	for i := range told {
		for k := range told {
			if told[i][k] != -told[k][i] {
				t.Fatalf("%d and %d: %d, %d", i, k, told[i][k], told[k][i])
			}
			for l := range told {
				if told[i][k] <= 0 && told[k][l] <= 0 && told[i][l] != min(told[i][k], told[k][l]) {
					t.Fatalf("%d, %d, %d: %d, %d, %d", i, k, l, told[i][k], told[k][l], told[i][l])
				}
			}
		}
	}
}

// A copy that shares nothing doesn't differ, and has the same hash.
func TestCopiesDontDiffer(t *testing.T) {
	m, values, all := many(t, 77, 60)
	for i, v := range values {
		w := copyOf(v).lay(t, m, map[*value]api.Word{})
		if compare(t, m.Arena(), all[i], w) != 0 || hash(t, m.Arena(), all[i]) != hash(t, m.Arena(), w) {
			t.Errorf("%d and its copy %d", all[i], w)
		}
	}
}

func TestWhereThingsLieChangesNothing(t *testing.T) {
	for seed := range int64(10) {
		m, values, all := many(t, 100+seed, 30)
		told, hashes := answers(t, m.Arena(), all)
		for range 3 {
			all = m.Force(all)
			wantAnswers(t, m.Arena(), all, told, hashes)
		}
		// Laid the other way round, behind something else.
		other := mem.New(api.MaxSemi)
		mustLay(t, other, "ahead of all")
		laid := map[*value]api.Word{}
		for i := len(values) - 1; i >= 0; i-- {
			all[i] = values[i].lay(t, other, laid)
		}
		wantAnswers(t, other.Arena(), all, told, hashes)
	}
}

// answer is all that Compare told.
type answer struct {
	n     int
	taken int64
	e     api.Errno
}

func answers(t *testing.T, a *arena.Arena, all []api.Word) ([]answer, []api.Word) {
	t.Helper()
	var told []answer
	var hashes []api.Word
	for _, v := range all {
		hashes = append(hashes, hash(t, a, v))
		for _, w := range all {
			n, taken, e := order.Compare(a, v, w, 10, 12)
			told = append(told, answer{n, taken, e})
		}
	}
	return told, hashes
}

func wantAnswers(t *testing.T, a *arena.Arena, all []api.Word, told []answer, hashes []api.Word) {
	t.Helper()
	now, h := answers(t, a, all)
	for i := range told {
		if now[i] != told[i] {
			t.Fatalf("%v became %v", told[i], now[i])
		}
	}
	for i := range hashes {
		if h[i] != hashes[i] {
			t.Fatalf("the hash %d became %d", hashes[i], h[i])
		}
	}
}
