package order

import (
	"grapnel/api"
	"grapnel/arena"
)

// pair is two words that are to be held against each other.
type pair struct {
	v, w api.Word
}

// pairWords is what a pair takes of the room.
const pairWords = 2

// work is the pairs that are left, the last one on top.
type work struct {
	pairs []pair
	room  int
}

func (k *work) done() bool { return len(k.pairs) == 0 }

func (k *work) put(p pair) api.Errno {
	if pairWords*(len(k.pairs)+1) > k.room {
		return api.ErrStack
	}
	k.pairs = append(k.pairs, p)
	return api.OK
}

func (k *work) take() pair {
	last := len(k.pairs) - 1
	p := k.pairs[last]
	k.pairs = k.pairs[:last]
	return p
}

// putFields puts the fields of two blocks of one size, the last ones first: the first ones are to be taken ahead of the others.
func (k *work) putFields(a *arena.Arena, p pair) api.Errno {
	for i := a.Size(p.v) - 1; i >= 0; i-- {
		v, _ := a.Get(p.v, i)
		w, _ := a.Get(p.w, i)
		if e := k.put(pair{v, w}); e != api.OK {
			return e
		}
	}
	return api.OK
}
