package code

import "grapnel/api"

// reader reads an image's bytes, and gives up where they can't be one's.
type reader struct{ left []byte }

func (r *reader) giveUp() { panic(api.ErrCode) }

// bytes tells the next ones, which are then read.
func (r *reader) bytes(many int64) []byte {
	if many < 0 || many > int64(len(r.left)) {
		r.giveUp()
	}
	b := r.left[:many]
	r.left = r.left[many:]
	return b
}

func (r *reader) number() int64 {
	n := int64(0)
	for k, b := range r.bytes(8) {
		n |= int64(b) << (8 * k)
	}
	return n
}

func (r *reader) text() string { return string(r.bytes(r.number())) }

// count reads how many elements a list has. Each of them has a number at least, so of more than there can be nothing is made.
func (r *reader) count() int {
	n := r.number()
	if n < 0 || n > int64(len(r.left)/8) {
		r.giveUp()
	}
	return int(n)
}

func (r *reader) flag() bool {
	n := r.number()
	if n != 0 && n != 1 {
		r.giveUp()
	}
	return n == 1
}

// listOf reads a list, each element by read.
func listOf[T any](r *reader, read func() T) []T {
	var all []T
	for range r.count() {
		all = append(all, read())
	}
	return all
}

func (r *reader) image() api.Image {
	if string(r.bytes(int64(len(mark)))) != mark {
		r.giveUp()
	}
	var i api.Image
	i.Exns = listOf(r, r.exn)
	i.Texts = listOf(r, r.text)
	i.Code = listOf(r, r.instruction)
	return i
}

func (r *reader) exn() api.Exn {
	name := r.text()
	return api.Exn{Name: name, With: r.flag()}
}

func (r *reader) place() int { return int(r.number()) }

// instruction reads one; which numbers and places may be in it isn't asked yet.
func (r *reader) instruction() api.Ins {
	x := api.Ins{Op: int(r.number())}
	s, ok := shapeOf(x, 0)
	if !ok {
		r.giveUp()
	}
	both := [2]*int64{&x.A, &x.B}
	for k := range s.numbers {
		*both[k] = r.number()
	}
	switch s.places {
	case onePlace:
		x.L = []int{r.place()}
	case choices:
		x.Ns = listOf(r, r.number)
		x.Ts = listOf(r, r.number)
		x.L = listOf(r, r.place)
	case somePlaces:
		x.L = listOf(r, r.place)
	}
	return x
}
