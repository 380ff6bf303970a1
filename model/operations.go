package model

import (
	"grapnel/api"
	"grapnel/word"
)

// operands tells how many operands an operation has; below 0: there is no such operation.
func operands(op int64) int {
	switch op {
	case api.OpNeg, api.OpNot, api.OpRef, api.OpDeref:
		return 1
	case api.OpEq, api.OpNe, api.OpLt, api.OpGt, api.OpLe, api.OpGe, api.OpCat, api.OpAssign:
		return 2
	}
	if op >= api.OpAdd && op <= api.OpLess {
		return 2
	}
	return -1
}

// operate does an operation.
func (r *run) operate(op int64, of []value) {
	switch op {
	case api.OpNeg:
		r.reckon(api.OpSub, number(0), of[0])
	case api.OpNot:
		if n, ok := is[number](r, of[0]); ok {
			r.tell(truth(n == 0))
		}
	case api.OpEq, api.OpNe, api.OpLt, api.OpGt, api.OpLe, api.OpGe:
		if told, ok := r.order(of[0], of[1]); ok {
			r.tell(truth(holds(op, told)))
		}
	case api.OpCat:
		r.join(of[0], of[1])
	case api.OpRef:
		r.tell(&block{fields: of})
	case api.OpDeref:
		r.get(of[0], 0)
	case api.OpAssign:
		r.set(of[0], 0, of[1])
	default:
		r.reckon(int(op), of[0], of[1])
	}
}

// reckon does one of the operations on numbers.
func (r *run) reckon(op int, v, w value) {
	a, ok := is[number](r, v)
	if !ok {
		return
	}
	b, ok := is[number](r, w)
	if !ok {
		return
	}
	told, e := word.Do(op, wordOf(a), wordOf(b))
	if e != api.OK { // there is such an operation: so it is a quotient by 0
		r.raise(exnDivision)
		return
	}
	r.tell(numberOf(told))
}

// holds tells whether what an operation asks holds of two of which an order told that.
func holds(op int64, told int) bool {
	switch op {
	case api.OpEq:
		return told == 0
	case api.OpNe:
		return told != 0
	case api.OpLt:
		return told < 0
	case api.OpGt:
		return told > 0
	case api.OpLe:
		return told <= 0
	}
	return told >= 0
}

func (r *run) join(v, w value) {
	a, ok := is[text](r, v)
	if !ok {
		return
	}
	b, ok := is[text](r, w)
	switch {
	case !ok:
	case len(a)+len(b) > api.MaxText:
		r.raise(exnArgument)
	default:
		r.tell(a + b)
	}
}
