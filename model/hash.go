package model

// What a hash is made by, as chapter 6 has it.
const (
	hashStart = 7
	hashTimes = 31
	hashText  = 3
	hashTag   = 5
	hashTaken = 24 // values, at most
	hashBytes = 64 // of a text, at most
	hashMask  = 1<<30 - 1
)

// hashed is the number that comes about. That it wraps at 64 bits, not at 63, isn't seen in the lowest ones.
type hashed int64

// hash goes through a value and what is in it, the outer ones first. More than are taken needn't be in the queue.
func (r *run) hash(v value) {
	h, queue := hashed(hashStart), []value{v}
	for i := 0; i < len(queue); i++ {
		if isFunction(queue[i]) {
			r.raise(exnArgument)
			return
		}
		h = h.take(queue[i])
		if b, ok := queue[i].(*block); ok {
			queue = append(queue, b.fields[:min(len(b.fields), hashTaken-len(queue))]...)
		}
	}
	r.tell(number(h & hashMask))
}

// take goes on by what a value is, without its fields.
func (h hashed) take(v value) hashed {
	if n, ok := v.(number); ok {
		return h.add(int64(n))
	}
	if s, ok := v.(text); ok {
		h = h.add(hashText)
		for i := range min(len(s), hashBytes) {
			h = h.add(int64(s[i]))
		}
		return h
	}
	if b, ok := v.(*block); ok {
		h = h.add(hashTag*b.tag + int64(len(b.fields)))
	}
	return h
}

func (h hashed) add(n int64) hashed { return hashTimes*h + hashed(n) }
