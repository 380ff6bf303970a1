package code

import "grapnel/api"

const (
	mostInt       = 1<<62 - 1
	leastInt      = -1 << 62
	mostParams    = 30 // of a function, and arguments of a call; functions that are made together
	mostAway      = 100
	spareForHeads = 60 // words for the functions that are made together, ahead of what they hold
)

// span is from which number to which one something may be.
type span struct{ least, most int64 }

func upTo(n int64) span { return span{0, n} }

func (s span) has(n int64) bool { return s.least <= n && n <= s.most }

// How many places in the code an instruction has.
const (
	noPlace    = iota
	onePlace   // in its bytes it stands alone
	somePlaces // as a list
	choices    // as a list, behind those of the numbers and tags by which is chosen
)

// shape tells which fields an instruction has. What isn't spoken of is 0, or without elements.
type shape struct {
	numbers []span // which A may be, and behind it B, as far as it has them
	places  int
}

// leads tells a shape that has places, and numbers in these spans.
func leads(places int, numbers ...span) (shape, bool) {
	return shape{numbers: numbers, places: places}, true
}

// has tells a shape that has just numbers in these spans.
func has(numbers ...span) (shape, bool) { return leads(noPlace, numbers...) }

// shapeOf tells the shape of an instruction in an image with so many texts; false: there is no such instruction.
func shapeOf(i api.Ins, texts int) (shape, bool) {
	switch i.Op {
	case api.IConst:
		return has(span{leastInt, mostInt})
	case api.IText:
		return has(upTo(int64(texts) - 1))
	case api.IAcc, api.IPop, api.IAssign, api.IReturn:
		return has(upTo(api.MaxStack))
	case api.IEnv, api.IField, api.ISet:
		return has(upTo(api.MaxSize - 1))
	case api.ISelf:
		return has(span{-mostAway, mostAway})
	case api.IApply, api.IGrab:
		return has(span{1, mostParams})
	case api.IOp:
		return has(operations(i.A))
	case api.ICall:
		return has(span{api.BPrintInt, api.BHash})
	case api.ITail:
		return has(span{1, mostParams}, upTo(api.MaxStack))
	case api.IBlock:
		return has(upTo(api.TagLast), upTo(api.MaxSize))
	case api.IFrame, api.IJump, api.IUnless, api.ITrap:
		return leads(onePlace)
	case api.IClosure:
		return leads(onePlace, upTo(api.MaxSize-1))
	case api.IClosures:
		return leads(somePlaces, upTo(api.MaxSize-spareForHeads))
	case api.ISwitch:
		return leads(choices)
	case api.IPush, api.IRestart, api.IAt, api.IPut, api.IUntrap, api.IRaise, api.IStop:
		return has()
	}
	return shape{}, false
}

// operations tells the span of the operations among which a number would stand: those on numbers, or those of a core alone.
func operations(n int64) span {
	if n <= api.OpLess {
		return span{api.OpAdd, api.OpLess}
	}
	return span{api.OpNeg, api.OpAssign}
}
