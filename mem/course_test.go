package mem_test

import (
	"math/rand"
	"slices"
	"testing"

	"grapnel/api"
	"grapnel/mem"
	"grapnel/word"
)

// P4.3: a course of calls is played with plain things, which need no room and never move, and with a Mem, with collections forced now and then or not at all. Who holds the roots and follows fields has to see the same.

// thing is a block without a place.
type thing struct {
	tag    int
	fields []held
}

// held is what a field or a root holds: a thing, at a distance; or a word that leads to nothing.
type held struct {
	to       *thing
	distance int
	word     api.Word
}

// things is what is played without a Mem: with how many cells a half of that many would have in use, to tell when a collection comes.
type things struct {
	roots             []held
	half, used, count int
}

// cells tells how many cells are in reach.
func (p *things) cells() int {
	found := map[*thing]bool{}
	cells := 0
	var walk func(h held)
	walk = func(h held) {
		if h.to == nil || found[h.to] {
			return
		}
		found[h.to] = true
		cells += 1 + len(h.to.fields)
		for _, f := range h.to.fields {
			walk(f)
		}
	}
	for _, h := range p.roots {
		walk(h)
	}
	return cells
}

func (p *things) collect() {
	p.used = p.cells()
	p.count++
}

// alloc tells whether there is room, and lays a thing, the last of the roots then.
func (p *things) alloc(tag, size int) bool {
	if p.cells()+size+1 > p.half {
		return false
	}
	if p.used+size+1 > p.half {
		p.collect()
	}
	p.used += size + 1
	b := &thing{tag: tag, fields: make([]held, size)}
	for i := range b.fields {
		b.fields[i] = held{word: word.Int(0)}
	}
	p.roots = append(p.roots, held{to: b})
	return true
}

// The kinds of a course's steps.
const (
	doAlloc   = iota // a block of tag x, of y fields, is the last of the roots
	doLink           // field y of root x is the word of root z
	doNumber         // field y of root x is the number z
	doInner          // field y of root x is the head of an inner slot, and that slot the last of the roots
	doFollow         // field y of root x is the last of the roots
	doDrop           // root x is gone
	doCollect        // perhaps a collection: played as it may be
)

type call struct{ kind, x, y, z int }

// apply plays a step with things; false: there is no room for it.
func (p *things) apply(c call) bool {
	switch c.kind {
	case doAlloc:
		return p.alloc(c.x, c.y)
	case doLink:
		p.roots[c.x].to.fields[c.y] = p.roots[c.z]
	case doNumber:
		p.roots[c.x].to.fields[c.y] = held{word: word.Int(int64(c.z))}
	case doInner:
		p.roots[c.x].to.fields[c.y] = held{word: word.Head(api.TagInner, c.y+1)}
		p.roots = append(p.roots, held{to: p.roots[c.x].to, distance: c.y + 1})
	case doFollow:
		p.roots = append(p.roots, p.roots[c.x].to.fields[c.y])
	case doDrop:
		p.roots = slices.Delete(p.roots, c.x, c.x+1)
	}
	return true
}

// step makes up a step that may be played now.
func (p *things) step(r *rand.Rand) call {
	var full []int // which roots lead to a thing with fields
	for i, h := range p.roots {
		if h.to != nil && len(h.to.fields) > 0 {
			full = append(full, i)
		}
	}
	kind := r.Intn(12)
	switch {
	case len(p.roots) > 6 || len(p.roots) > 0 && kind == 0:
		return call{kind: doDrop, x: r.Intn(len(p.roots))}
	case kind == 1:
		return call{kind: doCollect}
	case kind <= 4 || len(full) == 0:
		tags := []int{0, 1, api.TagLast, api.TagClosure, api.TagClosure, api.TagText}
		return call{kind: doAlloc, x: tags[r.Intn(len(tags))], y: r.Intn(6)}
	}
	x := full[r.Intn(len(full))]
	b := p.roots[x].to
	y := r.Intn(len(b.fields))
	switch {
	case b.tag == api.TagText || !mayWrite(b, y):
		return call{kind: doFollow, x: x, y: y}
	case kind <= 6:
		return call{kind: doNumber, x: x, y: y, z: r.Intn(100)}
	case kind == 7 && b.tag == api.TagClosure && y+1 < len(b.fields) && p.roots[x].distance == 0:
		return call{kind: doInner, x: x, y: y}
	case kind <= 9:
		return call{kind: doFollow, x: x, y: y}
	}
	return call{kind: doLink, x: x, y: y, z: r.Intn(len(p.roots))}
}

// mayWrite tells whether a field may be written: an inner slot's head may not, as words that lead to the slot would lead to nothing then, and perhaps elsewhere later.
func mayWrite(b *thing, y int) bool {
	return b.fields[y].to != nil || b.fields[y].word != word.Head(api.TagInner, y+1)
}

// player plays the same with a Mem.
type player struct {
	m     *mem.Mem
	roots []api.Word
	force func(i int) bool // is a collection forced ahead of step i?
}

func (p *player) collect() { p.roots = p.m.Force(p.roots) }

func (p *player) apply(t *testing.T, c call, room bool) {
	t.Helper()
	a := p.m.Arena()
	switch c.kind {
	case doAlloc:
		p.alloc(t, c, room)
	case doLink:
		put(t, p.m, p.roots[c.x], c.y, p.roots[c.z])
	case doNumber:
		put(t, p.m, p.roots[c.x], c.y, word.Int(int64(c.z)))
	case doInner:
		put(t, p.m, p.roots[c.x], c.y, word.Head(api.TagInner, c.y+1))
		p.roots = append(p.roots, word.Ptr(word.Addr(p.roots[c.x])+c.y+1))
	case doFollow:
		w, e := a.Get(p.roots[c.x], c.y)
		if e != api.OK {
			t.Fatalf("Get(%d, %d): error %d", p.roots[c.x], c.y, e)
		}
		p.roots = append(p.roots, w)
	case doDrop:
		p.roots = slices.Delete(p.roots, c.x, c.x+1)
	}
}

func (p *player) alloc(t *testing.T, c call, room bool) {
	t.Helper()
	if !room {
		wantRefused(t, p.m, c.x, c.y, p.roots, api.ErrFull)
		return
	}
	w, now, e := p.m.Alloc(c.x, c.y, p.roots)
	if e != api.OK || len(now) != len(p.roots) {
		t.Fatalf("Alloc(%d, %d, %v) = %d, %v, %d", c.x, c.y, p.roots, w, now, e)
	}
	p.roots = append(now, w)
}

// same walks from the roots here and there, the same fields, and has to see the same.
func same(t *testing.T, p *things, q *player) {
	t.Helper()
	if len(p.roots) != len(q.roots) {
		t.Fatalf("%d roots, want %d", len(q.roots), len(p.roots))
	}
	a := q.m.Arena()
	partner, back := map[*thing]api.Word{}, map[api.Word]*thing{}
	var walk func(h held, w api.Word)
	walk = func(h held, w api.Word) {
		if h.to == nil {
			if w != h.word {
				t.Fatalf("%d, want %d", w, h.word)
			}
			return
		}
		block, distance := a.Leads(w)
		if block == 0 || distance != h.distance {
			t.Fatalf("%d leads to %d at %d, want distance %d", w, block, distance, h.distance)
		}
		other, known := partner[h.to]
		first, taken := back[block]
		if known != taken || known && (other != block || first != h.to) {
			t.Fatalf("block %d stands for two, or two for one", block)
		}
		if known {
			return
		}
		partner[h.to], back[block] = block, h.to
		if a.Tag(w) != h.to.tag || a.Size(w) != len(h.to.fields) {
			t.Fatalf("tag %d, size %d, want %d, %d", a.Tag(w), a.Size(w), h.to.tag, len(h.to.fields))
		}
		for i, f := range h.to.fields {
			x, _ := a.Get(w, i)
			walk(f, x)
		}
	}
	for i, h := range p.roots {
		walk(h, q.roots[i])
	}
}

// play plays a course with things, as a half of that many cells would have room for it, and with players beside them, each with collections of its own.
func play(t *testing.T, r *rand.Rand, p *things, steps int, players ...*player) {
	t.Helper()
	for i := range steps {
		c := p.step(r)
		room := p.apply(c)
		for k, q := range players {
			if q.force(i) {
				q.collect()
			}
			// A wider half has room for what a narrower one refuses; the course goes on as the narrow one plays it.
			if room || q.m.Arena().Half() == p.half {
				q.apply(t, c, room)
			}
			if t.Failed() {
				t.Fatalf("player %d, step %d: %v", k, i, c)
			}
			same(t, p, q)
		}
	}
}

func never(int) bool  { return false }
func always(int) bool { return true }

func TestTheSameIsSeenWheneverCollectionsCome(t *testing.T) {
	for seed := range int64(150) {
		r := rand.New(rand.NewSource(seed))
		half := 6 + r.Intn(50)
		at := make([]bool, 200)
		for i := range at {
			at[i] = r.Intn(5) == 0
		}
		wide := &player{m: mem.New(2000), force: never}
		play(t, r, &things{half: half}, len(at),
			wide,
			&player{m: mem.New(half), force: never},
			&player{m: mem.New(half), force: always},
			&player{m: mem.New(half), force: func(i int) bool { return at[i] }},
		)
		if wide.m.Count() != 0 {
			t.Fatalf("the wide one made %d collections", wide.m.Count())
		}
	}
}

func TestCountAlongACourse(t *testing.T) {
	came := 0
	for seed := range int64(150) {
		r := rand.New(rand.NewSource(seed))
		half := 6 + r.Intn(50)
		p, q := &things{half: half}, &player{m: mem.New(half), force: never}
		for range 200 {
			c := p.step(r)
			was := p.count
			room := p.apply(c)
			came += p.count - was
			if c.kind == doCollect {
				p.collect()
				q.collect()
			} else {
				q.apply(t, c, room)
			}
			same(t, p, q)
			used := q.m.Arena().Top() - q.m.Arena().Base()
			if q.m.Count() != p.count || used != p.used {
				t.Fatalf("seed %d, %v: Count() %d, %d cells in use, want %d, %d", seed, c, q.m.Count(), used, p.count, p.used)
			}
		}
	}
	if came == 0 {
		t.Fatal("no collection came of itself in any course")
	}
}
