package model

import (
	"grapnel/api"
	"grapnel/word"
)

const (
	codeBits = 1<<8 - 1 // of what exit is asked for
	noNumber = "int_of_string"
)

// call does what a built-in function does with all its arguments.
func (r *run) call(builtin int, args []value) {
	switch builtin {
	case api.BPrintInt, api.BExit, api.BToText:
		if n, ok := is[number](r, args[0]); ok {
			r.ofNumber(builtin, n)
		}
	case api.BPrint, api.BToInt, api.BLength:
		if s, ok := is[text](r, args[0]); ok {
			r.ofText(builtin, string(s))
		}
	case api.BLine:
		r.readLine()
	case api.BByte:
		r.byteOf(args[0], args[1])
	case api.BMake:
		r.array(args[0], args[1])
	case api.BSize:
		if b, ok := is[*block](r, args[0]); ok {
			r.tell(number(len(b.fields)))
		}
	case api.BCompare:
		if told, ok := r.order(args[0], args[1]); ok {
			r.tell(number(told))
		}
	default:
		r.hash(args[0])
	}
}

func (r *run) ofNumber(builtin int, n number) {
	switch builtin {
	case api.BPrintInt:
		r.write(word.Digits(wordOf(n)))
	case api.BExit:
		r.end.Code = int(n & codeBits)
		r.stop(Ended)
	default:
		r.tell(text(word.Digits(wordOf(n))))
	}
}

func (r *run) ofText(builtin int, s string) {
	switch builtin {
	case api.BPrint:
		r.write(s)
	case api.BLength:
		r.tell(number(len(s)))
	default:
		w, e := word.Parse(s)
		if e != api.OK {
			r.raise(failure(noNumber))
			return
		}
		r.tell(numberOf(w))
	}
}

func (r *run) write(s string) {
	r.out = append(r.out, s...)
	r.tell(unit)
}

func (r *run) readLine() {
	if r.end.Read >= len(r.lines) {
		r.raise(exnEnd)
		return
	}
	s := r.lines[r.end.Read]
	r.end.Read++
	r.tell(text(s[:min(len(s), api.MaxText)]))
}

func (r *run) byteOf(v, w value) {
	s, ok := is[text](r, v)
	if !ok {
		return
	}
	i, ok := is[number](r, w)
	switch {
	case !ok:
	case !within(int64(i), len(s)):
		r.raise(exnArgument)
	default:
		r.tell(number(s[i]))
	}
}

func (r *run) array(many, of value) {
	n, ok := is[number](r, many)
	switch {
	case !ok:
	case n < 0 || n > api.MaxSize:
		r.raise(exnArgument)
	default:
		b := &block{fields: make([]value, n)}
		for i := range b.fields {
			b.fields[i] = of
		}
		r.tell(b)
	}
}
