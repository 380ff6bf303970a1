package lam

import (
	"grapnel/api"
	"grapnel/word"
)

const (
	codeBits = 1<<8 - 1 // of what exit is asked for
	noNumber = "int_of_string"
)

// call does what a built-in function does with all its arguments.
func (w *world) call(builtin int64, args []value) {
	switch builtin {
	case api.BPrintInt, api.BExit, api.BToText:
		if n, ok := is[number](w, args[0]); ok {
			w.ofNumber(builtin, n)
		}
	case api.BPrint, api.BToInt, api.BLength:
		if s, ok := is[text](w, args[0]); ok {
			w.ofText(builtin, string(s))
		}
	case api.BLine:
		w.readLine()
	case api.BByte:
		w.byteOf(args[0], args[1])
	case api.BMake:
		w.array(args[0], args[1])
	case api.BSize:
		if b, ok := is[*block](w, args[0]); ok {
			w.tell(number(len(b.fields)))
		}
	case api.BCompare:
		if told, ok := w.order(args[0], args[1]); ok {
			w.tell(number(told))
		}
	default:
		w.hash(args[0])
	}
}

func (w *world) ofNumber(builtin int64, n number) {
	switch builtin {
	case api.BPrintInt:
		w.write(word.Digits(wordOf(n)))
	case api.BExit:
		w.end.Code = int(n & codeBits)
		w.stop(Ended)
	default:
		w.tell(text(word.Digits(wordOf(n))))
	}
}

func (w *world) ofText(builtin int64, s string) {
	switch builtin {
	case api.BPrint:
		w.write(s)
	case api.BLength:
		w.tell(number(len(s)))
	default:
		n, e := word.Parse(s)
		if e != api.OK {
			w.raise(&block{tag: tagFailure, fields: []value{text(noNumber)}})
			return
		}
		w.tell(numberOf(n))
	}
}

func (w *world) write(s string) {
	w.out = append(w.out, s...)
	w.tell(unit)
}

func (w *world) readLine() {
	if w.end.Read >= len(w.lines) {
		w.raise(exnEnd)
		return
	}
	s := w.lines[w.end.Read]
	w.end.Read++
	w.tell(text(s[:min(len(s), api.MaxText)]))
}

func (w *world) byteOf(v, at value) {
	s, ok := is[text](w, v)
	if !ok {
		return
	}
	i, ok := is[number](w, at)
	switch {
	case !ok:
	case !within(int64(i), len(s)):
		w.raise(exnArgument)
	default:
		w.tell(number(s[i]))
	}
}

func (w *world) array(many, of value) {
	n, ok := is[number](w, many)
	switch {
	case !ok:
	case n < 0 || n > api.MaxSize:
		w.raise(exnArgument)
	default:
		b := &block{fields: make([]value, n)}
		for i := range b.fields {
			b.fields[i] = of
		}
		w.tell(b)
	}
}
