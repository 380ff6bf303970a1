package word_test

import (
	"math"
	"math/big"
	"math/rand"
	"strings"
	"testing"

	"grapnel/api"
	"grapnel/word"
)

const (
	least    = -1 << 62
	greatest = 1<<62 - 1
)

var ring = new(big.Int).Lsh(big.NewInt(1), 63)

// cut is what the chapter calls so, worked out with numbers of any length.
func cut(n *big.Int) int64 {
	m := new(big.Int).Mod(n, ring)
	if m.Cmp(big.NewInt(greatest)) > 0 {
		m.Sub(m, ring)
	}
	return m.Int64()
}

// numbers are the edges of 63 bits and of what lies within them, and some numbers between, always the same ones.
func numbers() []int64 {
	list := []int64{0, 1, -1, 2, -2, 3, -3, 6, 7, -7, 10, 61, 62, 63, 64, 65, -62, -63, 99, 255, 256}
	for _, bits := range []uint{8, 30, 31, 32, 39, 53, 60, 61} {
		p := int64(1) << bits
		list = append(list, p-1, p, p+1, -p-1, -p, -p+1)
	}
	list = append(list, greatest, greatest-1, least, least+1)
	r := rand.New(rand.NewSource(1))
	for i := 0; i < 40; i++ {
		list = append(list, int64(r.Uint64())>>(1+uint(r.Intn(62))))
	}
	return list
}

// P1.1

func TestIntCutsToANumber(t *testing.T) {
	list := append(numbers(), greatest+1, greatest+2, least-1, least-2, math.MaxInt64, math.MaxInt64-1, math.MinInt64, math.MinInt64+1)
	for _, n := range list {
		want := cut(big.NewInt(n))
		w := word.Int(n)
		if word.Num(w) != want {
			t.Errorf("Num(Int(%d)) = %d, want %d", n, word.Num(w), want)
		}
		if w != api.Word(uint64(2*want+1)) {
			t.Errorf("Int(%d) = %d", n, w)
		}
		if !word.IsInt(w) {
			t.Errorf("Int(%d) is no number's", n)
		}
	}
}

func TestIntExamples(t *testing.T) {
	for _, c := range []struct {
		n    int64
		want api.Word
	}{
		{0, 1}, {1, 3}, {-1, math.MaxUint64}, {greatest, 1<<63 - 1}, {least, 1<<63 + 1},
		{greatest + 1, 1<<63 + 1}, {least - 1, 1<<63 - 1}, {math.MaxInt64, math.MaxUint64}, {math.MinInt64, 1},
	} {
		if got := word.Int(c.n); got != c.want {
			t.Errorf("Int(%d) = %d, want %d", c.n, got, c.want)
		}
	}
}

func TestNumLeavesTheLowestBitAside(t *testing.T) {
	for _, c := range []struct {
		w    api.Word
		want int64
	}{
		{0, 0}, {1, 0}, {2, 1}, {3, 1}, {10, 5}, {11, 5}, {1<<63 - 2, greatest}, {1<<63 - 1, greatest},
		{1 << 63, least}, {1<<63 + 1, least}, {math.MaxUint64 - 1, -1}, {math.MaxUint64, -1},
	} {
		if got := word.Num(c.w); got != c.want {
			t.Errorf("Num(%d) = %d, want %d", c.w, got, c.want)
		}
	}
}

func TestIsInt(t *testing.T) {
	for _, w := range []api.Word{1, 3, 11, 1<<32 - 1, 1<<63 - 1, 1<<63 + 1, math.MaxUint64} {
		if !word.IsInt(w) || word.IsInt(w-1) {
			t.Errorf("IsInt of %d and the word ahead of it: %t, %t", w, word.IsInt(w), word.IsInt(w-1))
		}
	}
}

func TestPtr(t *testing.T) {
	for _, c := range []struct {
		a    int
		want api.Word
	}{
		{0, 0}, {1, 2}, {5, 10}, {1<<31 - 2, 1<<32 - 4}, {1<<31 - 1, 1<<32 - 2},
		{1 << 31, 0}, {1<<31 + 1, 0}, {1 << 32, 0}, {math.MaxInt, 0}, {-1, 0}, {math.MinInt, 0}, {math.MinInt + 1, 0},
	} {
		if got := word.Ptr(c.a); got != c.want {
			t.Errorf("Ptr(%d) = %d, want %d", c.a, got, c.want)
		}
	}
}

func TestAddr(t *testing.T) {
	for _, c := range []struct {
		w    api.Word
		want int
	}{
		{0, 0}, {1, 0}, {2, 1}, {3, 0}, {10, 5}, {11, 0}, {1<<32 - 2, 1<<31 - 1}, {1<<32 - 1, 0}, {1<<32 - 3, 0},
		{1 << 32, 0}, {1<<32 + 2, 0}, {1 << 63, 0}, {math.MaxUint64 - 1, 0}, {math.MaxUint64, 0},
	} {
		if got := word.Addr(c.w); got != c.want {
			t.Errorf("Addr(%d) = %d, want %d", c.w, got, c.want)
		}
	}
}

// P1.2

func TestHead(t *testing.T) {
	for _, tag := range []int{0, 1, 199, 200, 201, 202, 254, 255} {
		for _, size := range []int{0, 1, 3, 255, 256, 4096, 1<<31 - 2, 1<<31 - 1} {
			h := word.Head(tag, size)
			if h != word.Int(256*int64(size)+int64(tag)) || word.Tag(h) != tag || word.Size(h) != size {
				t.Errorf("Head(%d, %d) = %d, of tag %d and size %d", tag, size, h, word.Tag(h), word.Size(h))
			}
		}
	}
}

func TestHeadOfNone(t *testing.T) {
	for _, c := range [][2]int{
		{-1, 0}, {256, 0}, {256, 3}, {0, -1}, {255, -1}, {0, 1 << 31}, {255, 1 << 31}, {-1, -1}, {256, 1 << 31},
		{math.MaxInt, 0}, {math.MinInt, 0}, {0, math.MaxInt}, {0, math.MinInt}, {0, 1 << 55}, {0, 1 << 56},
	} {
		if h := word.Head(c[0], c[1]); h != 0 {
			t.Errorf("Head(%d, %d) = %d, want 0", c[0], c[1], h)
		}
	}
}

func TestTagAndSizeOfNone(t *testing.T) {
	for _, w := range []api.Word{
		0, 2, 10, 2 * 970, 1<<40 - 2, 1 << 40, 1 << 63, math.MaxUint64 - 1,
		word.Int(1 << 39), word.Int(1<<39 + 970), word.Int(greatest), word.Int(-1), word.Int(-970), word.Int(least), word.Int(least + 970),
	} {
		if word.Tag(w) != 0 || word.Size(w) != 0 {
			t.Errorf("of %d, no header's: tag %d, size %d", w, word.Tag(w), word.Size(w))
		}
	}
	if last := word.Int(1<<39 - 1); word.Tag(last) != 255 || word.Size(last) != 1<<31-1 {
		t.Errorf("of the greatest header: tag %d, size %d", word.Tag(last), word.Size(last))
	}
}

// P1.3

// shifted is what Do says of OpShl and OpShr, done once for each time.
func shifted(op int, a, times int64) int64 {
	if times < 0 || times > 62 {
		if op == api.OpShr && a < 0 {
			return -1
		}
		return 0
	}
	n := big.NewInt(a)
	for ; times > 0; times-- {
		if op == api.OpShl {
			n.Mul(n, big.NewInt(2))
		} else {
			n.Div(n, big.NewInt(2)) // Euclid's: by 2 it rounds down
		}
	}
	return cut(n)
}

// done is what Do tells, worked out with numbers of any length.
func done(op int, a, b int64) (int64, api.Errno) {
	x, y, z := big.NewInt(a), big.NewInt(b), new(big.Int)
	switch op {
	case api.OpAdd:
		z.Add(x, y)
	case api.OpSub:
		z.Sub(x, y)
	case api.OpMul:
		z.Mul(x, y)
	case api.OpDiv, api.OpRem:
		if b == 0 {
			return 0, api.ErrRange
		}
		z.Quo(x, y)
		if op == api.OpRem {
			z.Sub(x, z.Mul(z, y))
		}
	case api.OpAnd:
		z.And(x, y)
	case api.OpOr:
		z.Or(x, y)
	case api.OpXor:
		z.Xor(x, y)
	case api.OpShl, api.OpShr:
		return shifted(op, a, b), api.OK
	case api.OpLess:
		if x.Cmp(y) < 0 {
			z.SetInt64(1)
		}
	default:
		return 0, api.ErrArg
	}
	return cut(z), api.OK
}

func checkDo(t *testing.T, op int, a, b api.Word) {
	t.Helper()
	n, e := done(op, word.Num(a), word.Num(b))
	want := word.Int(n)
	if e != api.OK {
		want = 0
	}
	if w, got := word.Do(op, a, b); w != want || got != e {
		t.Errorf("Do(%d, %d, %d) = %d, %d, want %d, %d", op, a, b, w, got, want, e)
	}
}

func TestDoAtTheEdges(t *testing.T) {
	list := numbers()
	for op := api.OpAdd; op <= api.OpLess; op++ {
		for _, a := range list {
			for _, b := range list {
				checkDo(t, op, word.Int(a), word.Int(b))
			}
		}
	}
}

func TestDoOfEvenWords(t *testing.T) {
	list := []api.Word{0, 2, 10, 124, 126, 1<<32 - 2, 1 << 32, 1<<63 - 2, 1 << 63, math.MaxUint64 - 1}
	for op := api.OpAdd; op <= api.OpLess; op++ {
		for _, a := range list {
			for _, b := range list {
				checkDo(t, op, a, b)
				checkDo(t, op, a+1, b)
				checkDo(t, op, a, b+1)
			}
		}
	}
}

func TestDoExamples(t *testing.T) {
	for _, c := range []struct {
		op      int
		a, b, n int64
	}{
		{api.OpAdd, 2, 3, 5}, {api.OpAdd, greatest, 1, least}, {api.OpAdd, least, -1, greatest}, {api.OpAdd, least, least, 0},
		{api.OpSub, 2, 3, -1}, {api.OpSub, least, 1, greatest}, {api.OpSub, 0, least, least},
		{api.OpMul, -3, 7, -21}, {api.OpMul, least, -1, least}, {api.OpMul, greatest, greatest, 1}, {api.OpMul, 1 << 31, 1 << 31, least},
		{api.OpDiv, -7, 2, -3}, {api.OpDiv, 7, -2, -3}, {api.OpDiv, -7, -2, 3}, {api.OpDiv, least, -1, least}, {api.OpDiv, 0, 5, 0},
		{api.OpRem, -7, 2, -1}, {api.OpRem, 7, -2, 1}, {api.OpRem, -7, -2, -1}, {api.OpRem, least, -1, 0}, {api.OpRem, 3, least, 3},
		{api.OpAnd, -1, 6, 6}, {api.OpAnd, least, greatest, 0}, {api.OpOr, 4, 3, 7}, {api.OpOr, least, greatest, -1}, {api.OpXor, -1, 1, -2}, {api.OpXor, -1, least, greatest},
		{api.OpShl, 1, 61, 1 << 61}, {api.OpShl, 1, 62, least}, {api.OpShl, -1, 62, least}, {api.OpShl, 2, 62, 0}, {api.OpShl, 5, 0, 5},
		{api.OpShl, 1, 63, 0}, {api.OpShl, -1, 63, 0}, {api.OpShl, 1, 64, 0}, {api.OpShl, 1, -1, 0}, {api.OpShl, -1, greatest, 0}, {api.OpShl, -1, least, 0},
		{api.OpShr, -7, 1, -4}, {api.OpShr, -7, 0, -7}, {api.OpShr, greatest, 61, 1}, {api.OpShr, greatest, 62, 0}, {api.OpShr, least, 62, -1}, {api.OpShr, least, 61, -2},
		{api.OpShr, 7, 63, 0}, {api.OpShr, -7, 63, -1}, {api.OpShr, 7, -1, 0}, {api.OpShr, -7, -1, -1}, {api.OpShr, 7, greatest, 0}, {api.OpShr, -7, least, -1},
		{api.OpLess, -1, 0, 1}, {api.OpLess, 0, 0, 0}, {api.OpLess, 0, -1, 0}, {api.OpLess, least, greatest, 1}, {api.OpLess, greatest, least, 0},
	} {
		if w, e := word.Do(c.op, word.Int(c.a), word.Int(c.b)); w != word.Int(c.n) || e != api.OK {
			t.Errorf("Do(%d) of %d, %d: %d, %d, want %d", c.op, c.a, c.b, word.Num(w), e, c.n)
		}
	}
}

func TestDoByNought(t *testing.T) {
	for _, op := range []int{api.OpDiv, api.OpRem} {
		for _, a := range []api.Word{0, 1, word.Int(1), word.Int(-1), word.Int(least), word.Int(greatest)} {
			for _, b := range []api.Word{0, 1} { // both words have the number 0
				if w, e := word.Do(op, a, b); w != 0 || e != api.ErrRange {
					t.Errorf("Do(%d, %d, %d) = %d, %d, want 0, ErrRange", op, a, b, w, e)
				}
			}
		}
	}
}

func TestDoOfNoOperation(t *testing.T) {
	for _, op := range []int{0, -1, 12, 13, api.OpNeg, api.OpEq, api.OpLt, api.OpAssign, 256 + api.OpAdd, math.MaxInt, math.MinInt} {
		for _, b := range []int64{0, 1} {
			if w, e := word.Do(op, word.Int(1), word.Int(b)); w != 0 || e != api.ErrArg {
				t.Errorf("Do(%d) = %d, %d, want 0, ErrArg", op, w, e)
			}
		}
	}
}

// P1.4

func TestDigits(t *testing.T) {
	for _, c := range []struct {
		w    api.Word
		want string
	}{
		{word.Int(0), "0"}, {word.Int(7), "7"}, {word.Int(-5), "-5"}, {word.Int(10), "10"}, {word.Int(-100), "-100"},
		{word.Int(greatest), "4611686018427387903"}, {word.Int(least), "-4611686018427387904"},
		{0, "0"}, {10, "5"}, {1 << 63, "-4611686018427387904"}, {math.MaxUint64 - 1, "-1"},
	} {
		if got := word.Digits(c.w); got != c.want {
			t.Errorf("Digits(%d) = %q, want %q", c.w, got, c.want)
		}
	}
}

func TestParse(t *testing.T) {
	for _, c := range []struct {
		s    string
		want int64
	}{
		{"0", 0}, {"1", 1}, {"-1", -1}, {"9", 9}, {"10", 10}, {"-10", -10}, {"1000", 1000}, {"999999999999999999", 999999999999999999},
		{"4611686018427387903", greatest}, {"-4611686018427387903", -greatest}, {"-4611686018427387904", least},
	} {
		if w, e := word.Parse(c.s); w != word.Int(c.want) || e != api.OK {
			t.Errorf("Parse(%q) = %d, %d", c.s, w, e)
		}
	}
}

func TestParseRefusesWhatIsNoDigits(t *testing.T) {
	long := strings.Repeat("9", 1000)
	for _, s := range []string{
		"", "-", "--", "--1", "-0", "-00", "00", "01", "-01", "007", "+", "+1", "+0", "-+1", "1-", "1-1", " 1", "1 ", "- 1", "1\n", "\t1",
		"1_000", "1,000", "1.0", "1e3", "0x1", "0b1", "1a", "a", "/", ":", "1/", "1:", "\x00", "1\x00", "\xff", "٣", "１", "−1",
		"0" + long, "-0" + long, long + "x", "x" + long, long + " ", "-" + long + "-", strings.Repeat("0", 40),
	} {
		if w, e := word.Parse(s); w != 0 || e != api.ErrForm {
			t.Errorf("Parse(%q) = %d, %d, want 0, ErrForm", s, w, e)
		}
	}
}

func TestParseRefusesMoreThan63Bits(t *testing.T) {
	list := []string{
		"4611686018427387904", "-4611686018427387905", "4611686018427387905", "5000000000000000000", "9223372036854775807", "9223372036854775808",
		"-9223372036854775808", "-9223372036854775809", "9999999999999999999", "-9999999999999999999", "10000000000000000000",
		"18446744073709551615", "18446744073709551616", "18446744073709551617", "-18446744073709551616", "-18446744073709551617", "36893488147419103233",
	}
	for _, n := range []int{20, 21, 40, 1000, 1 << 20} {
		list = append(list, strings.Repeat("9", n), "-"+strings.Repeat("1", n), "1"+strings.Repeat("0", n))
	}
	for _, k := range []uint{64, 65, 127, 128, 4096} { // numbers that wrap round to small ones
		p := new(big.Int).Lsh(big.NewInt(1), k)
		list = append(list, p.String(), new(big.Int).Add(p, big.NewInt(5)).String(), new(big.Int).Neg(p).String())
	}
	for _, s := range list {
		if w, e := word.Parse(s); w != 0 || e != api.ErrRange {
			t.Errorf("Parse(%.40q) = %d, %d, want 0, ErrRange", s, w, e)
		}
	}
}

// P1.5

func do(t *testing.T, op int, a, b api.Word) api.Word {
	t.Helper()
	w, e := word.Do(op, a, b)
	if e != api.OK {
		t.Fatalf("Do(%d, %d, %d): %d", op, a, b, e)
	}
	return w
}

func TestWordsOfNumbersAreARing(t *testing.T) {
	nought, one := word.Int(0), word.Int(1)
	var list []api.Word
	for _, n := range numbers() {
		list = append(list, word.Int(n))
	}
	for i, a := range list {
		if do(t, api.OpAdd, a, nought) != a || do(t, api.OpMul, a, one) != a || do(t, api.OpAdd, a, do(t, api.OpSub, nought, a)) != nought {
			t.Errorf("%d: 0, 1 or what is taken from 0", a)
		}
		for j, b := range list {
			sum, product := do(t, api.OpAdd, a, b), do(t, api.OpMul, a, b)
			if !word.IsInt(sum) || !word.IsInt(product) || sum != do(t, api.OpAdd, b, a) || product != do(t, api.OpMul, b, a) || do(t, api.OpSub, sum, b) != a {
				t.Errorf("%d, %d: the order matters", a, b)
			}
			c := list[(i*7+j*13)%len(list)]
			if do(t, api.OpAdd, sum, c) != do(t, api.OpAdd, a, do(t, api.OpAdd, b, c)) || do(t, api.OpMul, product, c) != do(t, api.OpMul, a, do(t, api.OpMul, b, c)) {
				t.Errorf("%d, %d, %d: the grouping matters", a, b, c)
			}
			if do(t, api.OpMul, sum, c) != do(t, api.OpAdd, do(t, api.OpMul, a, c), do(t, api.OpMul, b, c)) {
				t.Errorf("%d, %d, %d: a product of a sum", a, b, c)
			}
		}
	}
}

func TestQuotientAndRestMakeTheNumber(t *testing.T) {
	for _, a := range numbers() {
		for _, b := range numbers() {
			if b == 0 {
				continue
			}
			x, y := word.Int(a), word.Int(b)
			q, r := do(t, api.OpDiv, x, y), do(t, api.OpRem, x, y)
			if do(t, api.OpAdd, do(t, api.OpMul, q, y), r) != x {
				t.Errorf("%d by %d: %d, %d", a, b, word.Num(q), word.Num(r))
			}
		}
	}
}

func TestWhatIsPrintedIsReadAsItWas(t *testing.T) {
	for _, n := range numbers() {
		s := word.Digits(word.Int(n))
		if s != big.NewInt(n).String() {
			t.Errorf("Digits of %d: %q", n, s)
		}
		if w, e := word.Parse(s); w != word.Int(n) || e != api.OK {
			t.Errorf("Parse(%q) = %d, %d", s, w, e)
		}
	}
}

func TestNumbersAddressesAndHeadersAreToldApart(t *testing.T) {
	for _, n := range numbers() {
		if w := word.Int(n); !word.IsInt(w) || word.Addr(w) != 0 {
			t.Errorf("the number %d: address %d", n, word.Addr(w))
		}
	}
	for _, a := range []int{1, 2, 5, 255, 1 << 20, 1<<31 - 1} {
		if w := word.Ptr(a); w == 0 || word.IsInt(w) || word.Addr(w) != a || word.Tag(w) != 0 || word.Size(w) != 0 {
			t.Errorf("the address %d: %d", a, w)
		}
	}
	for _, c := range [][2]int{{0, 0}, {202, 3}, {255, 1<<31 - 1}} {
		h := word.Head(c[0], c[1])
		n := 256*int64(c[1]) + int64(c[0])
		if !word.IsInt(h) || word.Num(h) != n || word.Int(n) != h || word.Addr(h) != 0 {
			t.Errorf("the header of %d, %d: %d", c[0], c[1], h)
		}
	}
}
