package copier

import (
	"grapnel/api"
	"grapnel/arena"
	"grapnel/word"
)

// moves is which blocks move, and where to. It only plans: the arena stays as it is, so that what a word leads to is asked of the half that is current all along.
type moves struct {
	from   *arena.Arena
	base   int                   // the first cell of the half that they move to
	cells  int                   // how many cells of that half are taken
	blocks []api.Word            // as they were, in the order in which they are laid
	moved  map[api.Word]api.Word // a block's word as it will be, by what it was
}

// follow plans the moves of all that is in reach of the roots.
func follow(a *arena.Arena, roots []api.Word) *moves {
	m := &moves{from: a, base: a.Half() - a.Base(), moved: map[api.Word]api.Word{}}
	m.takeAll(roots)
scan:
	for next := 0; ; next++ {
		switch {
		case next == len(m.blocks):
			break scan
		case m.hasWords(m.blocks[next]):
			m.takeAll(m.fields(m.blocks[next]))
		}
	}
	return m
}

// takeAll gives each block that one of the words leads to its place behind the others, unless it has one.
func (m *moves) takeAll(words []api.Word) {
	for _, w := range words {
		block, _ := m.from.Leads(w)
		if _, has := m.moved[block]; block == 0 || has {
			continue
		}
		m.moved[block] = word.Ptr(m.base + m.cells + 1)
		m.blocks = append(m.blocks, block)
		m.cells += 1 + m.from.Size(block)
	}
}

// hasWords tells whether a block's fields move: the bytes of a text may look like a block's word, and are none.
func (m *moves) hasWords(block api.Word) bool { return m.from.Tag(block) != api.TagText }

func (m *moves) fields(block api.Word) []api.Word {
	all := make([]api.Word, m.from.Size(block))
	for i := range all {
		all[i], _ = m.from.Get(block, i)
	}
	return all
}

// move tells what a word will be: one that leads to nothing stays, even if it happens to lead somewhere in the other half.
func (m *moves) move(w api.Word) api.Word {
	block, distance := m.from.Leads(w)
	if block == 0 {
		return w
	}
	return word.Ptr(word.Addr(m.moved[block]) + distance)
}

func (m *moves) moveAll(words []api.Word) []api.Word {
	now := make([]api.Word, len(words))
	for i, w := range words {
		now[i] = m.move(w)
	}
	return now
}

// twin is a block as it will lie in the other half.
type twin struct {
	tag    int
	fields []api.Word
}

func (m *moves) twins() []twin {
	all := make([]twin, len(m.blocks))
	for i, block := range m.blocks {
		all[i] = m.twin(block)
	}
	return all
}

func (m *moves) twin(block api.Word) twin {
	b := twin{tag: m.from.Tag(block), fields: m.fields(block)}
	if m.hasWords(block) {
		b.fields = m.moveAll(b.fields)
	}
	return b
}

// lay has room at all times, as the blocks come out of a half as great as this one.
func (b twin) lay(a *arena.Arena) {
	block, _ := a.Alloc(b.tag, len(b.fields))
	for i, w := range b.fields {
		a.Set(block, i, w)
	}
}
