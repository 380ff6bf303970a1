package code

import "grapnel/api"

// mark is what an image's bytes begin with.
const mark = "GR"

// writer lays an image's bytes, as far as there is room.
type writer struct {
	bytes []byte
	over  bool // there were more
}

// fits tells whether there is room for so many bytes.
func (w *writer) fits(many int) bool {
	if many > api.MaxCode-len(w.bytes) {
		w.over = true
	}
	return !w.over
}

// numbers lays each number's bytes, the lowest bits first.
func (w *writer) numbers(all ...int64) {
	if !w.fits(8 * len(all)) {
		return
	}
	for _, n := range all {
		for k := range 8 {
			w.bytes = append(w.bytes, byte(n>>(8*k)))
		}
	}
}

// count lays how many elements a list has, ahead of them.
func (w *writer) count(many int) { w.numbers(int64(many)) }

func (w *writer) text(s string) {
	w.count(len(s))
	w.plain(s)
}

// plain lays bytes as they are.
func (w *writer) plain(s string) {
	if w.fits(len(s)) {
		w.bytes = append(w.bytes, s...)
	}
}

// list lays numbers as a list.
func (w *writer) list(l []int64) {
	w.count(len(l))
	w.numbers(l...)
}

func (w *writer) image(i api.Image) {
	w.plain(mark)
	w.count(len(i.Exns))
	for _, x := range i.Exns {
		w.text(x.Name)
		w.flag(x.With)
	}
	w.count(len(i.Texts))
	for _, s := range i.Texts {
		w.text(s)
	}
	w.count(len(i.Code))
	for _, x := range i.Code {
		w.instruction(x, len(i.Texts))
	}
}

func (w *writer) flag(is bool) {
	if is {
		w.numbers(1)
	} else {
		w.numbers(0)
	}
}

// instruction lays one that may be in an image with so many texts.
func (w *writer) instruction(x api.Ins, texts int) {
	s, _ := shapeOf(x, texts)
	both := [2]int64{x.A, x.B}
	w.numbers(int64(x.Op))
	w.numbers(both[:len(s.numbers)]...)
	if s.places == choices {
		w.list(x.Ns)
		w.list(x.Ts)
	}
	if s.places == somePlaces || s.places == choices {
		w.count(len(x.L))
	}
	for _, p := range x.L {
		w.numbers(int64(p))
	}
}
