package model

import (
	"slices"

	"grapnel/api"
	"grapnel/word"
)

// value is what an expression comes to: a number, a text, a *block or a *function.
type value any

// number is one of 63 bits.
type number int64

type text string

// block is led to by a pointer: two of the same fields are two, and each can be changed by itself.
type block struct {
	tag    int64
	fields []value
}

// function is one that lacks arguments: one that is built in, or a KFun with the variables around it.
type function struct {
	builtin int // 0: it is none
	fun     *api.Core
	around  *variable
	known   []value // the arguments that it has so far
}

// variable is one that is bound, and leads to those that are bound around it.
type variable struct {
	n      int
	value  value
	around *variable
}

// bind binds a variable of that number, beside v and those that it leads to.
func (v *variable) bind(n int, to value) *variable {
	return &variable{n: n, value: to, around: v}
}

// bindAll binds as many variables as there are values, from that number on.
func (v *variable) bindAll(n int, to []value) *variable {
	for i, x := range to {
		v = v.bind(n+i, x)
	}
	return v
}

// find tells what the variable of that number is; none: it isn't bound.
func (v *variable) find(n int) value {
	for ; v != nil; v = v.around {
		if v.n == n {
			return v.value
		}
	}
	return nil
}

// lacks tells how many arguments a function still lacks.
func (f *function) lacks() int64 {
	return f.params() - int64(len(f.known))
}

// params tells how many parameters a function has: a built-in one as many as its type has arrows.
func (f *function) params() int64 {
	switch f.builtin {
	case 0:
		return f.fun.N
	case api.BByte, api.BMake, api.BCompare:
		return 2
	}
	return 1
}

// with tells a function that has these arguments, too.
func (f *function) with(args []value) *function {
	more := *f
	more.known = slices.Concat(f.known, args)
	return &more
}

// unit is `()`, as a value.
const unit = number(0)

func truth(is bool) number {
	if is {
		return 1
	}
	return 0
}

func wordOf(n number) api.Word { return word.Int(int64(n)) }

func numberOf(w api.Word) number { return number(word.Num(w)) }

// is tells a value as one of the kind that is asked for. That it is of another one ends the run.
func is[kind value](r *run, v value) (kind, bool) {
	x, ok := v.(kind)
	if !ok {
		r.stop(Wrong)
	}
	return x, ok
}
