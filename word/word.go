// Package word is layer 1: see shared/doc/01-word.md.
package word

import (
	"strconv"
	"strings"

	"grapnel/api"
)

const (
	maxAddr  = 1<<31 - 1
	maxTag   = 1<<8 - 1
	maxSize  = 1<<31 - 1
	maxHead  = maxSize<<8 + maxTag // the number of the greatest header
	maxShift = 62                  // by more, no bit of a number is left
	reach    = 1 << 62             // numbers go down to -reach, and up to just below reach
	maxLen   = 19                  // the most digits that a number has
)

// Int tells a number's word.
func Int(n int64) api.Word { return api.Word(n)<<1 | 1 }

// Num tells a word's number.
func Num(w api.Word) int64 { return int64(w) >> 1 }

// IsInt tells whether a word is a number's.
func IsInt(w api.Word) bool { return w&1 == 1 }

// Ptr tells an address's word.
func Ptr(a int) api.Word {
	if a < 0 || a > maxAddr {
		return 0
	}
	return api.Word(a) << 1
}

// Addr tells a word's address.
func Addr(w api.Word) int {
	if IsInt(w) || w > maxAddr<<1 {
		return 0
	}
	return int(w >> 1)
}

// Head tells a header's word.
func Head(tag, size int) api.Word {
	if tag < 0 || tag > maxTag || size < 0 || size > maxSize {
		return 0
	}
	return Int(int64(size)<<8 + int64(tag))
}

// Tag tells a header's tag.
func Tag(w api.Word) int {
	if !isHead(w) {
		return 0
	}
	return int(Num(w) & maxTag)
}

// Size tells a header's size.
func Size(w api.Word) int {
	if !isHead(w) {
		return 0
	}
	return int(Num(w) >> 8)
}

// isHead needs no look at the tag: up to maxHead each number is some header's.
func isHead(w api.Word) bool {
	n := Num(w)
	return IsInt(w) && n >= 0 && n <= maxHead
}

// Do does an operation. That 64 bits wrap round does no harm: Int keeps only the lowest 63, and those are right.
func Do(op int, a, b api.Word) (api.Word, api.Errno) {
	x, y := Num(a), Num(b)
	switch op {
	case api.OpAdd:
		return Int(x + y), api.OK
	case api.OpSub:
		return Int(x - y), api.OK
	case api.OpMul:
		return Int(x * y), api.OK
	case api.OpDiv:
		if y != 0 {
			return Int(x / y), api.OK
		}
		fallthrough // by 0 a quotient is refused where the rest is
	case api.OpRem:
		if y == 0 {
			return 0, api.ErrRange
		}
		return Int(x % y), api.OK
	case api.OpAnd:
		return Int(x & y), api.OK
	case api.OpOr:
		return Int(x | y), api.OK
	case api.OpXor:
		return Int(x ^ y), api.OK
	case api.OpShl:
		return Int(doubled(x, y)), api.OK
	case api.OpShr:
		return Int(halved(x, y)), api.OK
	case api.OpLess:
		return Int(less(x, y)), api.OK
	}
	return 0, api.ErrArg
}

func doubled(x, times int64) int64 {
	if times < 0 || times > maxShift {
		return 0
	}
	return x << uint(times)
}

func halved(x, times int64) int64 {
	if times < 0 || times > maxShift {
		times = maxShift // leaves nothing but the sign
	}
	return x >> uint(times)
}

func less(x, y int64) int64 {
	if x < y {
		return 1
	}
	return 0
}

// Digits tells a number's digits.
func Digits(w api.Word) string { return strconv.FormatInt(Num(w), 10) }

// Parse reads a number.
func Parse(s string) (api.Word, api.Errno) {
	if s == "0" {
		return Int(0), api.OK
	}
	digits := strings.TrimPrefix(s, "-")
	below := len(digits) < len(s)
	if !isCount(digits) {
		return 0, api.ErrForm
	}
	n, fits := count(digits)
	if !fits || n == reach && !below {
		return 0, api.ErrRange
	}
	if below {
		return Int(-int64(n)), api.OK
	}
	return Int(int64(n)), api.OK
}

// isCount tells whether s is the digits of a whole number above 0, without a nought in front.
func isCount(s string) bool {
	for i := 0; i < len(s); i++ {
		if s[i] < '0' || s[i] > '9' {
			return false
		}
	}
	return s != "" && s[0] != '0'
}

// count tells the number of such digits, if it is at most reach. The length is asked first: so many digits can't overflow.
func count(digits string) (uint64, bool) {
	if len(digits) > maxLen {
		return 0, false
	}
	n := uint64(0)
	for i := 0; i < len(digits); i++ {
		n = n*10 + uint64(digits[i]-'0')
	}
	return n, n <= reach
}
