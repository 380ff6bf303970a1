package lam

import (
	"grapnel/api"
	"grapnel/word"
)

// operate does an operation.
func (w *world) operate(op int64, of []value) {
	switch op {
	case api.OpNeg:
		w.reckon(api.OpSub, number(0), of[0])
	case api.OpNot:
		if n, ok := is[number](w, of[0]); ok {
			w.tell(truth(n == 0))
		}
	case api.OpEq, api.OpNe, api.OpLt, api.OpGt, api.OpLe, api.OpGe:
		if told, ok := w.order(of[0], of[1]); ok {
			w.tell(truth(holds(op, told)))
		}
	case api.OpCat:
		w.join(of[0], of[1])
	case api.OpRef:
		w.tell(&block{fields: of})
	case api.OpDeref:
		w.get(of[0], 0)
	case api.OpAssign:
		w.set(of[0], 0, of[1])
	default:
		w.reckon(int(op), of[0], of[1])
	}
}

// reckon does one of the operations on numbers.
func (w *world) reckon(op int, v, x value) {
	a, b, ok := w.areNumbers(v, x)
	if !ok {
		return
	}
	told, e := word.Do(op, wordOf(a), wordOf(b))
	if e != api.OK { // there is such an operation: so it is a quotient by 0
		w.raise(exnDivision)
		return
	}
	w.tell(numberOf(told))
}

// holds tells whether what an operation asks holds of two of which an order told that.
func holds(op int64, told int) bool {
	switch op {
	case api.OpEq:
		return told == 0
	case api.OpNe:
		return told != 0
	case api.OpLt:
		return told < 0
	case api.OpGt:
		return told > 0
	case api.OpLe:
		return told <= 0
	}
	return told >= 0
}

func (w *world) join(v, x value) {
	a, ok := is[text](w, v)
	if !ok {
		return
	}
	b, ok := is[text](w, x)
	switch {
	case !ok:
	case len(a)+len(b) > api.MaxText:
		w.raise(exnArgument)
	default:
		w.tell(a + b)
	}
}
