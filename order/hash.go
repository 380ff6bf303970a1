package order

import (
	"grapnel/api"
	"grapnel/arena"
	"grapnel/text"
	"grapnel/word"
)

const (
	hashStart = 7
	hashTimes = 31
	hashText  = 3
	hashTag   = 5
	hashWords = 24 // taken out of the queue, at most
	hashBytes = 64 // of a text, at most
	hashMask  = 1<<30 - 1
)

// hash is the word of the number that comes about.
type hash api.Word

// Hash tells a number made of a value.
func Hash(a *arena.Arena, v api.Word, room int) (api.Word, api.Errno) {
	h := hash(word.Int(hashStart))
	queue := []api.Word{v}
	for taken := 0; taken < hashWords && len(queue) > 0; taken++ {
		w := queue[0]
		queue = queue[1:]
		if e := fault(a, w); e != api.OK {
			return 0, e
		}
		h = h.take(a, w)
		if hasFields(a, w) {
			queue = append(queue, fields(a, w)...)
			if len(queue) > room {
				return 0, api.ErrStack
			}
		}
	}
	low, _ := word.Do(api.OpAnd, api.Word(h), word.Int(hashMask))
	return low, api.OK
}

// take goes on by what a plain word is, without its fields.
func (h hash) take(a *arena.Arena, w api.Word) hash {
	switch {
	case word.IsInt(w):
		return h.add(w)
	case isText(a, w):
		s, _ := text.Read(a, w)
		return h.add(word.Int(hashText)).addBytes(s[:min(len(s), hashBytes)])
	}
	return h.add(word.Int(int64(hashTag*a.Tag(w) + a.Size(w))))
}

// add can't fail: only a quotient does.
func (h hash) add(n api.Word) hash {
	times, _ := word.Do(api.OpMul, word.Int(hashTimes), api.Word(h))
	sum, _ := word.Do(api.OpAdd, times, n)
	return hash(sum)
}

func (h hash) addBytes(s string) hash {
	for i := range len(s) {
		h = h.add(word.Int(int64(s[i])))
	}
	return h
}

// hasFields tells whether a plain word leads to fields that are values.
func hasFields(a *arena.Arena, w api.Word) bool {
	return !word.IsInt(w) && !isText(a, w)
}

func fields(a *arena.Arena, w api.Word) []api.Word {
	all := make([]api.Word, a.Size(w))
	for i := range all {
		all[i], _ = a.Get(w, i)
	}
	return all
}
