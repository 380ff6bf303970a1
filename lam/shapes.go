package lam

import "grapnel/api"

const (
	mostNodes  = 20000
	mostDeep   = 2000
	mostParams = 30      // and parts of an LApp, variables of an LCatch
	mostNumber = 1 << 20 // of a variable, or an LCatch
	mostInt    = 1<<62 - 1
	leastInt   = -1 << 62
)

// span is from which number to which one something may be.
type span struct{ least, most int64 }

func exactly(n int64) span { return span{n, n} }

func upTo(n int64) span { return span{0, n} }

func (s span) has(n int64) bool { return s.least <= n && n <= s.most }

func (s span) counts(n int) bool { return s.has(int64(n)) }

// shape tells how a node's numbers may be, how many bytes its text may have, and how many elements its lists. What isn't spoken of is 0, or without any.
type shape struct{ n, v, s, ns, ts, parts span }

// hasShape tells whether a node is of a kind, and has just what that kind has. Which variables and catches are around isn't asked for.
func hasShape(l *api.Lam) bool {
	s, ok := shapeOf(l)
	return ok && s.n.has(l.N) && s.v.has(int64(l.V)) && s.s.counts(len(l.S)) &&
		s.ns.counts(len(l.Ns)) && s.ts.counts(len(l.Ts)) && s.parts.counts(len(l.L))
}

// shapeOf tells the shape of a node's kind; false: there is no such kind, or nothing of it by that number.
func shapeOf(l *api.Lam) (shape, bool) {
	numbers := upTo(mostNumber)
	switch l.Kind {
	case api.LInt:
		return shape{n: span{leastInt, mostInt}}, true
	case api.LText:
		return shape{s: upTo(api.MaxText)}, true
	case api.LVar:
		return shape{v: numbers}, true
	case api.LFun:
		return shape{n: span{1, mostParams}, v: numbers, parts: exactly(1)}, true
	case api.LRec:
		return shape{n: span{1, mostParams}, v: numbers, parts: exactly(l.N + 1)}, true
	case api.LLet, api.LTry:
		return shape{v: numbers, parts: exactly(2)}, true
	case api.LFor:
		return shape{n: upTo(1), v: numbers, parts: exactly(3)}, true
	case api.LCatch:
		return shape{n: numbers, ns: upTo(mostParams), parts: exactly(2)}, true
	case api.LExit:
		return shape{n: numbers, parts: upTo(mostParams)}, true
	case api.LSwitch:
		more := len(l.Ns) + len(l.Ts)
		return shape{ns: upTo(mostNodes), ts: upTo(api.TagLast + 1), parts: exactly(int64(more + 2))}, true
	}
	return shapeOfParts(l)
}

// shapeOfParts tells the shape of a kind that has no variable and no list but its parts.
func shapeOfParts(l *api.Lam) (shape, bool) {
	switch l.Kind {
	case api.LApp:
		return shape{parts: span{2, mostParams}}, true
	case api.LBlock:
		return shape{n: upTo(api.TagLast), parts: upTo(api.MaxSize)}, true
	case api.LField:
		return shape{n: upTo(api.MaxSize - 1), parts: exactly(1)}, true
	case api.LSet:
		return shape{n: upTo(api.MaxSize - 1), parts: exactly(2)}, true
	case api.LOp:
		many, ok := operands(l.N)
		return shape{n: exactly(l.N), parts: exactly(many)}, ok
	case api.LCall:
		many, ok := params(l.N)
		return shape{n: exactly(l.N), parts: exactly(many)}, ok
	case api.LRaise:
		return shape{parts: exactly(1)}, true
	case api.LAt, api.LSeq, api.LWhile:
		return shape{parts: exactly(2)}, true
	case api.LPut, api.LIf:
		return shape{parts: exactly(3)}, true
	}
	return shape{}, false
}

// operands tells how many operands an operation has; false: there is no such operation.
func operands(op int64) (int64, bool) {
	switch op {
	case api.OpNeg, api.OpNot, api.OpRef, api.OpDeref:
		return 1, true
	}
	return 2, op >= api.OpAdd && op <= api.OpLess || op >= api.OpNeg && op <= api.OpAssign
}

// params tells how many parameters a built-in function has; false: there is no such function.
func params(builtin int64) (int64, bool) {
	switch builtin {
	case api.BByte, api.BMake, api.BCompare:
		return 2, true
	}
	return 1, builtin >= api.BPrintInt && builtin <= api.BHash
}

// rise tells whether each number is above the one ahead of it.
func rise(l []int64) bool {
	for i := 1; i < len(l); i++ {
		if l[i-1] >= l[i] {
			return false
		}
	}
	return true
}
