package lam

import "grapnel/api"

// The exceptions that are raised by what can't be done: the numbers of those without anything, and the tag of the one of something.
const (
	exnDivision = number(1)
	exnArgument = number(2)
	exnEnd      = number(3)
	tagFailure  = 0
)

// world is the world of values: what is done with them, and what that takes, writes and reads. It knows of no program.
type world struct {
	exns   []api.Con
	lines  []string
	fuel   int64
	value  value // what was come to last
	raised bool  // it was raised
	out    []byte
	end    Ending // of no kind, as long as there is none
}

// tell has a value be what was come to.
func (w *world) tell(v value) { w.value = v }

func (w *world) raise(v value) { w.value, w.raised = v, true }

func (w *world) stop(kind int) { w.end.Kind = kind }

// burn takes 1 off the fuel; false: there is none, and so the run is at its end.
func (w *world) burn() bool {
	if w.fuel < 1 {
		w.stop(OutOfFuel)
		return false
	}
	w.fuel--
	return true
}

// is tells a value as one of the kind that is asked for. That it is of another one ends the run.
func is[kind value](w *world, v value) (kind, bool) {
	x, ok := v.(kind)
	if !ok {
		w.stop(Wrong)
	}
	return x, ok
}

// areNumbers tells two values as numbers.
func (w *world) areNumbers(v, x value) (number, number, bool) {
	a, ok := is[number](w, v)
	if !ok {
		return 0, 0, false
	}
	b, ok := is[number](w, x)
	return a, b, ok
}

func (w *world) get(v value, i int64) {
	if b, ok := w.hasField(v, i); ok {
		w.tell(b.fields[i])
	}
}

func (w *world) set(v value, i int64, to value) {
	if b, ok := w.hasField(v, i); ok {
		b.fields[i] = to
		w.tell(unit)
	}
}

// hasField tells a value as a block that has that field.
func (w *world) hasField(v value, i int64) (*block, bool) {
	b, ok := is[*block](w, v)
	if ok && !within(i, len(b.fields)) {
		w.stop(Wrong)
		return nil, false
	}
	return b, ok
}

func (w *world) getAt(v, at value) {
	if b, i, ok := w.element(v, at); ok {
		w.tell(b.fields[i])
	}
}

func (w *world) putAt(v, at, to value) {
	if b, i, ok := w.element(v, at); ok {
		b.fields[i] = to
		w.tell(unit)
	}
}

// element tells an array, and which of its elements is meant, if there is such a one.
func (w *world) element(v, at value) (*block, number, bool) {
	i, ok := is[number](w, at)
	if !ok {
		return nil, 0, false
	}
	b, ok := is[*block](w, v)
	if ok && !within(int64(i), len(b.fields)) {
		w.raise(exnArgument)
		return nil, 0, false
	}
	return b, i, ok
}

// uncaught ends the run by what was raised.
func (w *world) uncaught() {
	w.stop(Uncaught)
	if n, ok := w.value.(number); ok {
		w.end.Exn = w.exn(int64(n), false)
	}
	if b, ok := w.value.(*block); ok {
		w.end.Exn = w.exn(b.tag, true)
	}
}

// exn tells the name of the exception of that number among those with, or without, something; empty: there is none.
func (w *world) exn(n int64, with bool) string {
	for _, x := range w.exns {
		if int64(x.N) == n && (len(x.Of) > 0) == with {
			return x.Name
		}
	}
	return ""
}
