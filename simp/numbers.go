package simp

import (
	"slices"

	"grapnel/api"
	"grapnel/word"
)

// chosen tells the part that an LIf or an LSwitch chooses by a number.
func chosen(c api.Lam, n int64) api.Lam {
	if c.Kind == api.LSwitch {
		if i := slices.Index(c.Ns, n); i >= 0 {
			return c.L[1+i]
		}
		return c.L[len(c.L)-1]
	}
	if n == 0 {
		return c.L[2]
	}
	return c.L[1]
}

// result tells what an LOp comes to; false: it asks for something else than an operation on numbers of LInts, or for a quotient by 0.
func result(c api.Lam) (int64, bool) {
	for _, part := range c.L {
		if part.Kind != api.LInt {
			return 0, false
		}
	}
	switch c.N {
	case api.OpNot:
		return isZero(c.L[0].N), true
	case api.OpNeg:
		return reckoned(api.OpSub, 0, c.L[0].N)
	case api.OpRef, api.OpDeref:
		return 0, false
	}
	return reckoned(int(c.N), c.L[0].N, c.L[1].N)
}

func isZero(n int64) int64 {
	if n == 0 {
		return 1
	}
	return 0
}

// reckoned tells what an operation of word comes to; false: it is none, or there is nothing.
func reckoned(op int, a, b int64) (int64, bool) {
	told, e := word.Do(op, word.Int(a), word.Int(b))
	return word.Num(told), e == api.OK
}
