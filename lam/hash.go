package lam

// What a hash is made by, as chapter 6 has it.
const (
	hashStart = 7
	hashTimes = 31
	hashText  = 3
	hashTag   = 5
	hashTaken = 24 // values, at most
	hashBytes = 64 // of a text, at most
	hashMask  = 1<<30 - 1
)

// hashed is the number that comes about. That it wraps at 64 bits, not at 63, isn't seen in the lowest ones.
type hashed int64

// hash goes through a value and what is in it, the outer ones first. More than are taken needn't be in the queue.
func (w *world) hash(v value) {
	h, queue := hashed(hashStart), []value{v}
	for i := 0; i < len(queue); i++ {
		if isFunction(queue[i]) {
			w.raise(exnArgument)
			return
		}
		h = h.take(queue[i])
		if b, ok := queue[i].(*block); ok {
			queue = append(queue, b.fields[:min(len(b.fields), hashTaken-len(queue))]...)
		}
	}
	w.tell(number(h & hashMask))
}

// take goes on by what a value is, without its fields.
func (h hashed) take(v value) hashed {
	switch x := v.(type) {
	case number:
		return h.add(int64(x))
	case text:
		h = h.add(hashText)
		for i := range min(len(x), hashBytes) {
			h = h.add(int64(x[i]))
		}
		return h
	case *block:
		return h.add(hashTag*x.tag + int64(len(x.fields)))
	}
	return h
}

func (h hashed) add(n int64) hashed { return hashTimes*h + hashed(n) }
