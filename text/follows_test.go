package text_test

import (
	"math/rand"
	"slices"
	"testing"

	"grapnel/api"
	"grapnel/mem"
	"grapnel/text"
	"grapnel/word"
)

// P5.3

func TestWhatWasLaidIsRead(t *testing.T) {
	for _, n := range lengths() {
		m := mem.New(1200)
		before := mustLay(t, m, "before")
		w := mustLay(t, m, pattern(n))
		behind := mustLay(t, m, "behind")
		wantText(t, m.Arena(), before, "before")
		wantText(t, m.Arena(), w, pattern(n))
		wantText(t, m.Arena(), behind, "behind")
	}
}

// shortTexts are all texts of up to nine bytes of some few, those among them that fill up and end a text.
func shortTexts() []string {
	all := []string{""}
	for first := 0; len(all[first]) < 9; first++ {
		for _, c := range []string{"\x00", "\x07", "a"} {
			if len(all[first]) < 5 || c != "a" {
				all = append(all, all[first]+c)
			}
		}
	}
	return all
}

func TestTextsAreToldApartByTheirFields(t *testing.T) {
	type key struct {
		size   int
		fields [2]api.Word
	}
	m := mem.New(8)
	found := map[key]string{}
	for _, s := range shortTexts() {
		w := mustLay(t, m, s)
		key := key{size: m.Arena().Size(w)}
		copy(key.fields[:], fieldsOf(m.Arena(), w))
		if other, is := found[key]; is && other != s {
			t.Fatalf("%q and %q have the same fields", s, other)
		}
		found[key] = s
	}
	if len(found) != len(shortTexts()) {
		t.Errorf("%d fields of %d texts", len(found), len(shortTexts()))
	}
}

// Whatever fields a block has: if they are a text, laying that text makes just these fields.
func TestATextHasOneShape(t *testing.T) {
	r := rand.New(rand.NewSource(5))
	texts := 0
	for range 20000 {
		fields := make([]api.Word, r.Intn(4))
		for i := range fields {
			fields[i] = api.Word(r.Uint64())
			if i == len(fields)-1 {
				fields[i] = fields[i] >> (8 * r.Intn(8)) &^ (0xff << 56) & (1<<(8*r.Intn(8)) - 1)
				fields[i] |= api.Word(r.Intn(9)) << 56
			}
		}
		m := mem.New(20)
		s, e := text.Read(m.Arena(), mustAlloc(t, m.Arena(), api.TagText, fields...))
		if e == api.OK {
			texts++
			wantFields(t, m.Arena(), mustLay(t, m, s), fields...)
		} else if len(fields) > 0 && slices.Equal(shapeOfEnd(fields), fields) {
			t.Fatalf("%x holds a text, and is refused: %d", fields, e)
		}
	}
	if texts < 1000 || texts > 19000 {
		t.Errorf("%d of 20000 are texts", texts)
	}
}

// shapeOfEnd is the shape of the text that some fields would be, going by the last byte.
func shapeOfEnd(fields []api.Word) []api.Word {
	var all []byte
	for _, x := range fields {
		for i := range 8 {
			all = append(all, byte(x>>(8*i)))
		}
	}
	left := int(all[len(all)-1])
	if left > 7 {
		return nil
	}
	return shape(string(all[:len(all)-1-left]))
}

func TestACollectionChangesNoText(t *testing.T) {
	for _, n := range lengths() {
		m := mem.New(1200)
		mustLay(t, m, "gone")
		one, two := mustLay(t, m, pattern(n)), mustLay(t, m, pattern(n))
		roots := words(one, two, one)
		for range 3 {
			roots = m.Force(roots)
			if roots[0] != roots[2] || roots[0] == roots[1] {
				t.Fatalf("%d bytes: the roots are %v", n, roots)
			}
			for _, w := range roots {
				wantText(t, m.Arena(), w, pattern(n))
				wantFields(t, m.Arena(), w, shape(pattern(n))...)
			}
		}
	}
}

// A text's bytes may be those of a block's word, or of heads: they lead nowhere, keep nothing and stay as they are.
func TestBytesThatLookLikeWords(t *testing.T) {
	m := mem.New(40)
	a := m.Arena()
	block := mustAlloc(t, a, 1, 5)
	s := ""
	for _, x := range words(block, word.Head(api.TagInner, 2), block, word.Head(api.TagText, 1), word.Ptr(41)) {
		for i := range 8 {
			s += string([]byte{byte(x >> (8 * i))})
		}
	}
	roots := words(mustLay(t, m, s))
	if x, _ := a.Get(roots[0], 0); x != block {
		t.Fatalf("the first field is %d", x)
	}
	wantNone(t, a, roots[0]+4, api.ErrAddr)
	for range 2 {
		roots = m.Force(roots)
		wantText(t, a, roots[0], s)
		if used := a.Top() - a.Base(); used != 7 {
			t.Errorf("%d cells are in use", used)
		}
	}
}

// course is texts beside a Mem that holds them too.
type course struct {
	m     *mem.Mem
	texts [][]byte
	roots []api.Word
}

func (c *course) lay(t *testing.T, s string) {
	t.Helper()
	w, now, e := text.Lay(c.m, s, c.roots)
	used := 0
	for _, x := range c.texts {
		used += len(x)/8 + 2
	}
	if full := used+len(s)/8+2 > c.m.Arena().Half(); full != (e == api.ErrFull) || !full && e != api.OK {
		t.Fatalf("Lay of %d bytes beside %d cells: error %d", len(s), used, e)
	}
	if e == api.OK {
		c.texts, c.roots = append(c.texts, []byte(s)), append(now, w)
	}
}

func (c *course) step(t *testing.T, r *rand.Rand) {
	t.Helper()
	kind, i := r.Intn(10), r.Intn(len(c.texts)+1)
	switch {
	case kind < 4 || i == len(c.texts):
		s := make([]byte, r.Intn(40))
		r.Read(s)
		c.lay(t, string(s))
	case kind < 8:
		at, b := r.Intn(len(c.texts[i])+1), byte(r.Intn(256))
		e := text.Put(c.m.Arena(), c.roots[i], at, b)
		if at < len(c.texts[i]) {
			c.texts[i][at] = b
		}
		if want := at == len(c.texts[i]); want != (e == api.ErrRange) || !want && e != api.OK {
			t.Fatalf("Put(%d) into %d bytes: error %d", at, len(c.texts[i]), e)
		}
	case kind < 9:
		c.texts, c.roots = slices.Delete(c.texts, i, i+1), slices.Delete(c.roots, i, i+1)
	default:
		c.roots = c.m.Force(c.roots)
	}
}

func TestTextsAlongACourse(t *testing.T) {
	came := 0
	for seed := range int64(60) {
		r := rand.New(rand.NewSource(seed))
		c := &course{m: mem.New(8 + r.Intn(50))}
		for range 150 {
			c.step(t, r)
			for i, w := range c.roots {
				wantRead(t, c.m.Arena(), w, string(c.texts[i]))
				wantFields(t, c.m.Arena(), w, shape(string(c.texts[i]))...)
			}
			if t.Failed() {
				t.Fatalf("seed %d", seed)
			}
		}
		came += c.m.Count()
	}
	if came == 0 {
		t.Error("no collection came")
	}
}

// Two Mems share nothing, and the same calls answer the same.
func TestNothingIsKeptFromCallToCall(t *testing.T) {
	one, two := mem.New(20), mem.New(20)
	v, w := mustLay(t, one, "the same"), mustLay(t, two, "the same")
	if v != w {
		t.Errorf("%d and %d", v, w)
	}
	if e := text.Put(one.Arena(), v, 0, 'T'); e != api.OK {
		t.Errorf("Put: %d", e)
	}
	wantText(t, one.Arena(), v, "The same")
	wantText(t, two.Arena(), w, "the same")
	wantText(t, two.Arena(), w, "the same")
}
