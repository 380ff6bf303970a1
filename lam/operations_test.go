package lam_test

import (
	"math/big"
	"strings"
	"testing"

	"grapnel/api"
	"grapnel/lam"
)

// cut tells a whole number's lowest 63 bits, of which the highest one tells its sign, in digits.
func cut(n *big.Int) string {
	ring := new(big.Int).Lsh(big.NewInt(1), 63)
	n = new(big.Int).Mod(n, ring)
	if n.Bit(62) == 1 {
		n.Sub(n, ring)
	}
	return n.String()
}

// P13.1: numbers wrap; quotients are cut towards 0, and by 0 there is none.
func TestNumbers(t *testing.T) {
	all := []int64{0, 1, -1, 2, -2, 7, -7, 3037000500, -3037000500, mostInt, -mostInt, -1 << 62, mostInt - 1}
	for _, x := range all {
		a := big.NewInt(x)
		number(t, op(api.OpNeg, num(x)), cut(new(big.Int).Neg(a)))
		for _, y := range all {
			b := big.NewInt(y)
			number(t, op(api.OpAdd, num(x), num(y)), cut(new(big.Int).Add(a, b)))
			number(t, op(api.OpSub, num(x), num(y)), cut(new(big.Int).Sub(a, b)))
			number(t, op(api.OpMul, num(x), num(y)), cut(new(big.Int).Mul(a, b)))
			number(t, op(api.OpAnd, num(x), num(y)), cut(new(big.Int).And(a, b)))
			number(t, op(api.OpOr, num(x), num(y)), cut(new(big.Int).Or(a, b)))
			number(t, op(api.OpXor, num(x), num(y)), cut(new(big.Int).Xor(a, b)))
			number(t, op(api.OpLess, num(x), num(y)), map[bool]string{true: "1", false: "0"}[x < y])
			if y == 0 {
				comes(t, op(api.OpDiv, num(x), num(y)), uncaught("Division_by_zero", ""))
				comes(t, op(api.OpRem, num(x), num(y)), uncaught("Division_by_zero", ""))
				number(t, try(op(api.OpDiv, num(x), num(y)), 1, at(1)), "1")
				continue
			}
			number(t, op(api.OpDiv, num(x), num(y)), cut(new(big.Int).Quo(a, b)))
			number(t, op(api.OpRem, num(x), num(y)), cut(new(big.Int).Rem(a, b)))
		}
	}
}

func TestShifts(t *testing.T) {
	for _, one := range []struct {
		op, a, b int64
		told     string
	}{
		{api.OpShl, 3, 0, "3"}, {api.OpShl, 3, 1, "6"}, {api.OpShl, 3, 61, "-2305843009213693952"}, {api.OpShl, 1, 62, "-4611686018427387904"}, {api.OpShl, 3, 63, "0"}, {api.OpShl, 3, -1, "0"}, {api.OpShl, -1, 1, "-2"},
		{api.OpShr, 5, 0, "5"}, {api.OpShr, 5, 1, "2"}, {api.OpShr, -5, 1, "-3"}, {api.OpShr, -5, 62, "-1"}, {api.OpShr, 5, 63, "0"}, {api.OpShr, -5, 99, "-1"}, {api.OpShr, 5, -1, "0"}, {api.OpShr, -5, -1, "-1"}, {api.OpShr, mostInt, 61, "1"},
	} {
		number(t, op(one.op, num(one.a), num(one.b)), one.told)
	}
}

func TestNot(t *testing.T) {
	for n, want := range map[int64]string{0: "1", 1: "0", 2: "0", -1: "0"} {
		number(t, op(api.OpNot, num(n)), want)
	}
}

func TestRefs(t *testing.T) {
	get := func(c api.Lam) api.Lam { return op(api.OpDeref, c) }
	set := func(c, to api.Lam) api.Lam { return op(api.OpAssign, c, to) }
	number(t, get(op(api.OpRef, num(5))), "5")
	number(t, set(op(api.OpRef, num(5)), num(7)), "0")
	number(t, let(1, op(api.OpRef, num(1)), let(2, at(1), let(3, op(api.OpRef, get(at(1))), seq(set(at(2), num(5)), add(op(api.OpMul, get(at(1)), num(10)), get(at(3))))))), "51")
	number(t, of(api.LField, 0, op(api.OpRef, num(5))), "5")
	// a reference is any block of one field or more
	number(t, get(block(77, num(5), num(6))), "5")
	number(t, let(1, block(77, num(5), num(6)), seq(set(at(1), num(8)), get(at(1)))), "8")
	comes(t, get(block(0)), wrong(""))
	comes(t, set(block(0), num(1)), wrong(""))
}

// P13.1: a text of more than MaxText bytes can't come to be.
func TestCat(t *testing.T) {
	cat := func(a, b api.Lam) api.Lam { return op(api.OpCat, a, b) }
	shows(t, call(api.BPrint, cat(text("ab"), cat(text(""), text("c\x00d")))), "abc\x00d")
	long := text(strings.Repeat("x", 4096))
	number(t, call(api.BLength, cat(long, text(""))), "4096")
	number(t, call(api.BLength, cat(text(""), long)), "4096")
	number(t, call(api.BLength, cat(text(strings.Repeat("x", 4095)), text("y"))), "4096")
	comes(t, cat(long, marked(1, text("y"))), uncaught("Invalid_argument", "1"))
	comes(t, cat(text("y"), long), uncaught("Invalid_argument", ""))
	number(t, try(cat(long, long), 1, at(1)), "2")
}

func TestPrints(t *testing.T) {
	shows(t, seq(say(num(0)), say(num(-5)), say(num(mostInt)), say(num(-1<<62))), "0-54611686018427387903-4611686018427387904")
	shows(t, seq(write("a"), write(""), write("\x00\xff")), "a\x00\xff")
	number(t, say(num(1)), "10")
	number(t, write("a"), "a0")
}

func TestReadLine(t *testing.T) {
	line := call(api.BPrint, call(api.BLine, num(0)))
	c := seq(line, write("."), line, write("!"))
	for _, one := range []struct {
		lines []string
		want  lam.Ending
	}{
		{nil, uncaught("End_of_file", "")},
		{[]string{"a"}, lam.Ending{Kind: lam.Uncaught, Exn: "End_of_file", Out: "a.", Read: 1}},
		{[]string{"a", "b"}, lam.Ending{Kind: lam.Ended, Out: "a.b!", Read: 2}},
		{[]string{"", ""}, lam.Ending{Kind: lam.Ended, Out: ".!", Read: 2}},
		{[]string{"a\n\x00b", "\xff", "c"}, lam.Ending{Kind: lam.Ended, Out: "a\n\x00b.\xff!", Read: 2}},
	} {
		comes(t, c, one.want, one.lines...)
	}
	comes(t, try(try(seq(line, line), 1, seq(say(at(1)), line)), 1, write("?")), lam.Ending{Kind: lam.Ended, Out: "a3?", Read: 1}, "a")
	for _, many := range []int{4095, 4096, 4097, 12000} {
		long := strings.Repeat("abcdefg", many/7+1)[:many]
		kept := long[:min(many, 4096)]
		comes(t, seq(line, line), lam.Ending{Kind: lam.Ended, Out: kept + "z", Read: 2}, long, "z")
	}
}

// P13.1: the lowest 8 bits of the number, and nothing behind it is done.
func TestExitCodes(t *testing.T) {
	for n, code := range map[int64]int{0: 0, 1: 1, 44: 44, 255: 255, 256: 0, 257: 1, 300: 44, -1: 255, -256: 0, -257: 255, mostInt: 255, -1 << 62: 0, 65535: 255} {
		c := call(api.BExit, num(n))
		comes(t, seq(mark(5), c, mark(6)), lam.Ending{Kind: lam.Ended, Code: code, Out: "5"})
		comes(t, try(add(num(1), c), 1, mark(7)), lam.Ending{Kind: lam.Ended, Code: code})
	}
	comes(t, while(num(1), call(api.BExit, mark(9))), lam.Ending{Kind: lam.Ended, Code: 9, Out: "9"})
	comes(t, seq(call(api.BLine, num(0)), add(call(api.BExit, num(3)), mark(2))), lam.Ending{Kind: lam.Ended, Code: 3, Out: "2", Read: 1}, "a", "b")
}

func TestNumbersAsTexts(t *testing.T) {
	for n, s := range map[int64]string{0: "0", 7: "7", -7: "-7", 100: "100", mostInt: "4611686018427387903", -1 << 62: "-4611686018427387904"} {
		shows(t, call(api.BPrint, call(api.BToText, num(n))), s)
		number(t, call(api.BToInt, text(s)), s)
	}
	for _, s := range []string{"", "x", "-", "+1", "01", "-0", "00", "1 ", " 1", "1a", "--1", "4611686018427387904", "-4611686018427387905", "99999999999999999999999", "0x1"} {
		comes(t, call(api.BToInt, text(s)), uncaught("Failure", ""))
		shows(t, try(call(api.BToInt, text(s)), 1, seq(call(api.BPrint, of(api.LField, 0, at(1))), say(choose(nil, []int64{0}, at(1), num(1), num(2))), say(call(api.BSize, at(1))))), "int_of_string11")
	}
}

func TestTexts(t *testing.T) {
	number(t, call(api.BLength, text("")), "0")
	number(t, call(api.BLength, text("a\x00\n")), "3")
	number(t, call(api.BLength, text(strings.Repeat("a", 4096))), "4096")
	for i, want := range []string{"97", "0", "255"} {
		number(t, call(api.BByte, text("a\x00\xff"), num(i64(i))), want)
	}
	for _, i := range []int64{-1, 3, mostInt, -1 << 62} {
		comes(t, call(api.BByte, text("abc"), marked(1, num(i))), uncaught("Invalid_argument", "1"))
	}
	comes(t, call(api.BByte, text(""), num(0)), uncaught("Invalid_argument", ""))
}

func TestArrays(t *testing.T) {
	made := func(n int64, c api.Lam) api.Lam { return call(api.BMake, num(n), c) }
	for n, want := range map[int64]string{0: "0", 1: "1", 3: "3", 4096: "4096"} {
		number(t, call(api.BSize, made(n, num(7))), want)
	}
	for _, n := range []int64{-1, 4097, mostInt, -1 << 62} {
		comes(t, made(n, mark(1)), uncaught("Invalid_argument", "1"))
	}
	number(t, let(1, made(4096, num(7)), add(of(api.LAt, 0, at(1), num(0)), of(api.LAt, 0, at(1), num(4095)))), "14")
	comes(t, of(api.LAt, 0, made(4096, num(7)), num(4096)), uncaught("Invalid_argument", ""))
	number(t, let(1, made(3, op(api.OpRef, num(0))), seq(op(api.OpAssign, of(api.LAt, 0, at(1), num(0)), num(7)), op(api.OpDeref, of(api.LAt, 0, at(1), num(2))))), "7")
	number(t, let(1, made(2, num(0)), let(2, made(2, num(0)), seq(of(api.LPut, 0, at(1), num(0), num(1)), op(api.OpEq, at(1), at(2))))), "0")
	number(t, call(api.BSize, block(8, num(1), num(2))), "2")
}

// P13.1: what can't be done is Wrong, with what was written and read till then; nobody catches that.
func TestWrong(t *testing.T) {
	n, s, b, f := num(1), text("a"), block(0, num(1), num(2)), fun(50, 1, num(1))
	type ask = func(c api.Lam) api.Lam
	both := func(of int64, other api.Lam) []ask {
		return []ask{func(c api.Lam) api.Lam { return op(of, c, other) }, func(c api.Lam) api.Lam { return op(of, other, c) }, func(c api.Lam) api.Lam { return op(of, c, c) }}
	}
	var numbers, texts, refs, arrays []ask
	for of := int64(api.OpAdd); of <= api.OpLess; of++ {
		numbers = append(numbers, both(of, n)...)
	}
	numbers = append(numbers, both(api.OpDiv, num(0))[0], both(api.OpRem, num(0))[0])
	for _, of := range []int64{api.OpNeg, api.OpNot} {
		numbers = append(numbers, func(c api.Lam) api.Lam { return op(of, c) })
	}
	for _, of := range []int64{api.BPrintInt, api.BExit, api.BToText} {
		numbers = append(numbers, func(c api.Lam) api.Lam { return call(of, c) })
	}
	numbers = append(numbers, func(c api.Lam) api.Lam { return call(api.BByte, s, c) }, func(c api.Lam) api.Lam { return call(api.BMake, c, n) }, func(c api.Lam) api.Lam { return loop(1, 60, c, n, n) }, func(c api.Lam) api.Lam { return loop(0, 60, n, c, n) })
	texts = both(api.OpCat, s)
	for _, of := range []int64{api.BPrint, api.BToInt, api.BLength} {
		texts = append(texts, func(c api.Lam) api.Lam { return call(of, c) })
	}
	texts = append(texts, func(c api.Lam) api.Lam { return call(api.BByte, c, num(0)) }, func(c api.Lam) api.Lam { return call(api.BByte, c, num(-1)) })
	refs = []ask{func(c api.Lam) api.Lam { return op(api.OpDeref, c) }, func(c api.Lam) api.Lam { return op(api.OpAssign, c, n) }}
	arrays = []ask{func(c api.Lam) api.Lam { return call(api.BSize, c) }}
	for _, one := range []struct {
		asks []ask
		bad  []api.Lam
	}{{numbers, []api.Lam{s, b, f}}, {texts, []api.Lam{n, b, f}}, {refs, []api.Lam{n, s, f, block(0)}}, {arrays, []api.Lam{n, s, f}}} {
		for _, ask := range one.asks {
			for _, c := range one.bad {
				c = seq(call(api.BPrint, call(api.BLine, num(0))), ask(c))
				comes(t, try(c, 70, mark(9)), lam.Ending{Kind: lam.Wrong, Out: "a", Read: 1}, "a", "b")
			}
		}
	}
}
