package lam

import (
	"slices"

	"grapnel/api"
	"grapnel/word"
)

// value is what a node comes to: a number, a text, a *block or a *function.
type value any

// number is one of 63 bits.
type number int64

type text string

// block is led to by a pointer: two of the same fields are two, and each can be changed by itself.
type block struct {
	tag    int64
	fields []value
}

// function is an LFun with what was bound around it, and the arguments that it has so far.
type function struct {
	*node
	around *variable
	known  []value
}

// lacks tells how many arguments a function still lacks.
func (f *function) lacks() int { return int(f.N) - len(f.known) }

// with tells a function that has these arguments, too.
func (f *function) with(args []value) *function {
	more := *f
	more.known = slices.Concat(f.known, args)
	return &more
}

// unit is what comes of that which is done for what it changes.
const unit = number(0)

func truth(is bool) number {
	if is {
		return 1
	}
	return 0
}

// yes tells whether a value, a condition's, holds.
func yes(v value) bool { return v != number(0) }

func wordOf(n number) api.Word { return word.Int(int64(n)) }

func numberOf(w api.Word) number { return number(word.Num(w)) }

func isFunction(v value) bool {
	_, ok := v.(*function)
	return ok
}

func within(i int64, many int) bool { return i >= 0 && i < int64(many) }
