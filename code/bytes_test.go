package code_test

import (
	"math"
	"math/rand"
	"reflect"
	"slices"
	"strconv"
	"strings"
	"testing"

	"grapnel/api"
	"grapnel/code"
)

// same tells whether two images are alike; an empty list and none are one.
func same(a, b api.Image) bool {
	return slices.Equal(a.Exns, b.Exns) && slices.Equal(a.Texts, b.Texts) && slices.EqualFunc(a.Code, b.Code, func(x, y api.Ins) bool {
		return x.Op == y.Op && x.A == y.A && x.B == y.B && slices.Equal(x.Ns, y.Ns) && slices.Equal(x.Ts, y.Ts) && slices.Equal(x.L, y.L)
	})
}

// isNothing tells whether an image is the zero one.
func isNothing(i api.Image) bool { return reflect.DeepEqual(i, api.Image{}) }

// encoded holds what Encode tells of an image that may be, and that it is decoded as it was.
func encoded(t *testing.T, name string, i api.Image) []byte {
	t.Helper()
	b, e := code.Encode(i)
	if e != api.OK || string(b) != plainBytes(i) {
		t.Fatalf("%s: %d, %q", name, e, b)
	}
	if j, e := code.Decode(b); e != api.OK || !same(i, j) {
		t.Fatalf("%s: %d, decoded %v", name, e, j)
	}
	return b
}

// decoded holds what Decode tells of bytes, and that what is told is encoded as it was.
func decoded(t *testing.T, name string, b []byte) bool {
	t.Helper()
	want, ok := plainImage(b)
	i, e := code.Decode(b)
	switch {
	case len(b) > api.MaxCode:
		if e != api.ErrMany || !isNothing(i) {
			t.Fatalf("%s: %d", name, e)
		}
		return false
	case !ok:
		if e != api.ErrCode || !isNothing(i) {
			t.Fatalf("%s: %q: %d", name, b, e)
		}
	default:
		if e != api.OK || !same(i, want) || !code.May(i) {
			t.Fatalf("%s: %q: %d, %v", name, b, e, i)
		}
		if again, e := code.Encode(i); e != api.OK || string(again) != string(b) {
			t.Fatalf("%s: %q: %d, encoded %q", name, b, e, again)
		}
	}
	return ok
}

// head tells the bytes of the built-in exceptions and of the texts.
func head(texts ...string) string {
	return "GR" + plainList(built(), plainExn) + plainList(texts, plainText)
}

// P16.1: the bytes, written out.
func TestBytes(t *testing.T) {
	z := "\x00\x00\x00\x00\x00\x00\x00"
	exns := "GR\x06" + z + "\x0d" + z + "Match_failure\x00" + z + "\x10" + z + "Division_by_zero\x00" + z + "\x10" + z + "Invalid_argument\x00" + z +
		"\x0b" + z + "End_of_file\x00" + z + "\x09" + z + "Not_found\x00" + z + "\x07" + z + "Failure\x01" + z
	if b := encoded(t, "IStop", api.Image{Exns: built(), Code: []api.Ins{stop}}); string(b) != exns+"\x00"+z+"\x01"+z+"\x1e"+z {
		t.Errorf("%q", b)
	}
	i := api.Image{Exns: append(built(), api.Exn{Name: "\xffe", With: true}, api.Exn{Name: "Not"}), Texts: []string{"", "a\x00b"}, Code: []api.Ins{
		of(api.IConst, -2, 0), of(api.IText, 1, 0), of(api.ITail, 2, 8192), of(api.IClosure, 3, 0, 2), of(api.IClosures, 4, 0, 5, 6), {Op: api.ISwitch, Ns: []int64{-1, 256}, Ts: []int64{199}, L: []int{7, 6, 5, 4}}, of(api.IJump, 0, 0, 7), of(api.IPush, 0, 0),
	}}
	want := "GR\x08" + z + exns[10:] + "\x02" + z + "\xffe\x01" + z + "\x03" + z + "Not\x00" + z +
		"\x02" + z + "\x00" + z + "\x03" + z + "a\x00b" +
		"\x08" + z +
		"\x01" + z + "\xfe\xff\xff\xff\xff\xff\xff\xff" +
		"\x02" + z + "\x01" + z +
		"\x0b" + z + "\x02" + z + "\x00\x20\x00\x00\x00\x00\x00\x00" +
		"\x0f" + z + "\x03" + z + "\x02" + z +
		"\x10" + z + "\x04" + z + "\x02" + z + "\x05" + z + "\x06" + z +
		"\x1a" + z + "\x02" + z + "\xff\xff\xff\xff\xff\xff\xff\xff" + "\x00\x01\x00\x00\x00\x00\x00\x00" + "\x01" + z + "\xc7" + z + "\x04" + z + "\x07" + z + "\x06" + z + "\x05" + z + "\x04" + z +
		"\x18" + z + "\x07" + z +
		"\x06" + z
	if b := encoded(t, "some", i); string(b) != want {
		t.Errorf("%q", b)
	}
}

// The first example: how many bytes the smallest image has. Its names have 72, and each a length and a flag.
func TestSmallest(t *testing.T) {
	if b := encoded(t, "IStop", api.Image{Exns: built(), Code: []api.Ins{stop}}); len(b) != 2+8+(72+6*16)+8+8+8 {
		t.Errorf("%d bytes", len(b))
	}
}

// P16.1, P16.3: each instruction there and back, with each number that it may have.
func TestEachThereAndBack(t *testing.T) {
	for op := api.IConst; op <= api.IStop; op++ {
		f, _ := fields(op)
		encoded(t, strconv.Itoa(op), with(api.Ins{Op: api.IRestart}, least(op), stop))
		for _, n := range numbers() {
			x := least(op)
			if strings.Contains(f, "A") && mayA(op, n, 2) {
				x.A = n
				encoded(t, strconv.Itoa(op), with(api.Ins{Op: api.IRestart}, x))
			}
			if strings.Contains(f, "B") && mayB(op, n) {
				x.B = n
				encoded(t, strconv.Itoa(op), with(api.Ins{Op: api.IRestart}, x))
			}
		}
	}
	for many := 1; many <= 30; many++ {
		encoded(t, "functions", with(of(api.IClosures, 7, 0, slices.Repeat([]int{1}, many)...), stop))
	}
	encoded(t, "far numbers", chooses([]int64{math.MinInt64, -1<<62 - 1, -1, 1 << 62, math.MaxInt64}, []int64{0, 199}, 8))
	empty := with(api.Ins{Op: api.IRestart, Ns: []int64{}, Ts: []int64{}, L: []int{}})
	empty.Texts = []string{}
	encoded(t, "empty lists", empty)
}

// withBytes tells an image that has so many bytes, if it can.
func withBytes(many int, l ...api.Ins) api.Image {
	i := api.Image{Exns: built(), Code: l}
	left := many - len(plainBytes(i))
	for left > 0 {
		n := min(left-8, 4096)
		if rest := left - 8 - n; rest > 0 && rest < 8 {
			n -= 8
		}
		i.Texts = append(i.Texts, strings.Repeat("t", n))
		left -= 8 + n
	}
	return i
}

// P16.1, P16.2: images of just MaxCode bytes, and of more.
func TestMaxCode(t *testing.T) {
	switches := api.Ins{Op: api.ISwitch, Ns: madeRising(rand.New(rand.NewSource(5)), 0, 400), L: []int{0}}
	switches.L = make([]int, len(switches.Ns)+1)
	for _, l := range [][]api.Ins{{stop}, {of(api.IConst, 5, 0), stop}, {switches}, slices.Repeat([]api.Ins{stop}, 8000), slices.Repeat([]api.Ins{of(api.IAcc, 0, 0)}, 4000), slices.Repeat([]api.Ins{of(api.ITail, 1, 0)}, 2600)} {
		for many := api.MaxCode - 3; many <= api.MaxCode+3; many++ {
			i := withBytes(many, l...)
			all := plainBytes(i)
			if len(all) != many || !plainMay(i) {
				t.Fatalf("%d bytes in place of %d", len(all), many)
			}
			if many <= api.MaxCode {
				encoded(t, "at the bound", i)
				continue
			}
			if b, e := code.Encode(i); e != api.ErrMany || b != nil || !code.May(i) {
				t.Errorf("%d bytes: %d", many, e)
			}
			if j, e := code.Decode([]byte(all)); e != api.ErrMany || !isNothing(j) {
				t.Errorf("%d bytes: decoded %d", many, e)
			}
		}
	}
	for _, many := range []int{65536, 65537, 1 << 20, 1 << 26} { // whatever they are
		_, e := code.Decode(make([]byte, many))
		if want := map[bool]api.Errno{true: api.ErrMany, false: api.ErrCode}[many > 65536]; e != want {
			t.Errorf("%d bytes: %d", many, e)
		}
	}
}

// P16.1: an image that is too great for its bytes at each of its parts, also where a smaller part follows.
func TestTooGreat(t *testing.T) {
	tooGreat := func(name string, i api.Image) {
		t.Helper()
		if b, e := code.Encode(i); e != api.ErrMany || b != nil || !code.May(i) {
			t.Errorf("%s: %d", name, e)
		}
		i.Code = append(slices.Clone(i.Code), api.Ins{})
		if b, e := code.Encode(i); e != api.ErrForm || b != nil {
			t.Errorf("%s: %d of what may not be", name, e)
		}
	}
	many := make([]int64, 9000)
	for k := range many {
		many[k] = int64(k)
	}
	tooGreat("Ns", with(api.Ins{Op: api.ISwitch, Ns: many, L: make([]int, 9001)}, stop))
	tooGreat("L", with(api.Ins{Op: api.ISwitch, Ns: many[:5000], L: make([]int, 5001)}, stop))
	tooGreat("instructions", with(slices.Repeat([]api.Ins{of(api.IAcc, 0, 0)}, 8000)...))
	i := with(stop)
	i.Texts = append(slices.Repeat([]string{strings.Repeat("a", 4096)}, 16), "")
	tooGreat("texts", i)
	i.Texts = slices.Repeat([]string{strings.Repeat("a", 4096)}, 1000)
	tooGreat("many texts", i)
	i = with(stop)
	for k := range 190 {
		i.Exns = append(i.Exns, api.Exn{Name: strings.Repeat("e", 4000) + strconv.Itoa(k)})
	}
	tooGreat("names", i)
	greatest := make([]int64, 1<<20) // shared by many: its bytes would be some gigabytes
	for k := range greatest {
		greatest[k] = int64(k) - 1<<19
	}
	x := api.Ins{Op: api.ISwitch, Ns: greatest, L: make([]int, 1<<20+1)}
	tooGreat("shared", with(slices.Repeat([]api.Ins{x}, 100)...))
}

// P16.2: cut at every place, or with something behind.
func TestCut(t *testing.T) {
	for seed := range 60 {
		b := encoded(t, "made", made(seed, 12))
		for k := range b {
			if i, e := code.Decode(b[:k]); e != api.ErrCode || !isNothing(i) {
				t.Fatalf("seed %d: %d bytes: %d", seed, k, e)
			}
		}
		for _, more := range []string{"\x00", "G", "GR", plainNumber(0), plainNumber(api.IStop), string(b)} {
			if i, e := code.Decode([]byte(string(b) + more)); e != api.ErrCode || !isNothing(i) {
				t.Fatalf("seed %d: %q behind: %d", seed, more, e)
			}
		}
	}
}

// P16.2, P16.3: each byte changed to each other one.
func TestEachByteChanged(t *testing.T) {
	t.Parallel()
	all := map[bool]int{}
	for seed := range 12 {
		i := made(seed, 6)
		if seed == 0 {
			i = with(of(api.IConst, 300, 0), of(api.IText, 0, 0), api.Ins{Op: api.ISwitch, Ns: []int64{1, 3}, Ts: []int64{4, 6}, L: []int{0, 1, 2, 3, 4}}, api.Ins{Op: api.IRestart}, of(api.IGrab, 2, 0), of(api.IClosures, 3, 0, 1, 2), stop)
		}
		b := encoded(t, "made", i)
		for k := range b {
			for was := range 255 {
				c := slices.Clone(b)
				c[k] += byte(was) + 1
				all[decoded(t, "changed", c)]++
			}
		}
	}
	if all[true] < 1000 || all[false] < 1000 {
		t.Errorf("only %v", all)
	}
}

// P16.2: each eight bytes another number: lengths, flags, places, all that they may be.
func TestEachNumberChanged(t *testing.T) {
	t.Parallel()
	all := map[bool]int{}
	far := append(numbers(), 1<<63-8, 1<<60, 1<<61, 8191, 65536, 65528, -8, -2, 1<<61+1)
	for seed := range 40 {
		b := encoded(t, "made", made(seed, 8))
		for k := 2; k+8 <= len(b); k++ {
			for _, n := range far {
				c := []byte(string(b[:k]) + plainNumber(n) + string(b[k+8:]))
				all[decoded(t, "changed", c)]++
			}
		}
	}
	if all[true] < 500 || all[false] < 1000 {
		t.Errorf("only %v", all)
	}
}

// refuses holds that bytes are no image's.
func refuses(t *testing.T, name, b string) {
	t.Helper()
	if _, ok := plainImage([]byte(b)); ok {
		t.Errorf("%s: they are one's", name)
	}
	if i, e := code.Decode([]byte(b)); e != api.ErrCode || !isNothing(i) {
		t.Errorf("%s: %d", name, e)
	}
}

// P16.2: bytes that are nearly an image's.
func TestNearly(t *testing.T) {
	one, none, ends := plainNumber(1), plainNumber(0), plainNumber(api.IStop)
	whole := head("a") + one + ends
	if !decoded(t, "an image", []byte(whole)) {
		t.Errorf("no image")
	}
	refuses(t, "no bytes", "")
	if i, e := code.Decode(nil); e != api.ErrCode || !isNothing(i) {
		t.Errorf("none: %d", e)
	}
	for _, mark := range []string{"", "G", "R", "RG", "gr", "GR ", "Gr", "GRG"} {
		refuses(t, "mark "+mark, mark+whole[2:])
		refuses(t, "mark "+mark+" alone", mark)
	}
	refuses(t, "no code", head()+none)
	refuses(t, "no exceptions", "GR"+none+none+one+ends)
	for _, n := range numbers() {
		if n != 1 {
			refuses(t, "how many texts", "GR"+plainList(built(), plainExn)+plainNumber(n)+plainText("a")+one+ends)
			refuses(t, "how long a text is", "GR"+plainList(built(), plainExn)+one+plainNumber(n)+"a"+one+ends)
			refuses(t, "how many instructions", head("a")+plainNumber(n)+ends)
			refuses(t, "how many functions", head()+one+plainNumber(api.IClosures)+one+plainNumber(n)+none)
			refuses(t, "how many numbers", head()+one+plainNumber(api.ISwitch)+plainNumber(n)+plainNumber(300)+none+plainNumber(2)+none+none)
			refuses(t, "how many tags", head()+one+plainNumber(api.ISwitch)+none+plainNumber(n)+one+plainNumber(2)+none+none)
			refuses(t, "how many places", head()+one+plainNumber(api.ISwitch)+none+none+plainNumber(n)+none)
		}
		if n != 6 {
			refuses(t, "how many exceptions", "GR"+plainNumber(n)+head()[10:]+one+ends)
		}
		if n != 0 && n != 1 {
			refuses(t, "a flag", "GR"+plainNumber(7)+plainList(built(), plainExn)[8:]+plainText("e")+plainNumber(n)+none+one+ends)
		}
		refuses(t, "an Op", head()+one+plainNumber(n<<8+api.IStop+1))
		if !mayA(api.IConst, n, 0) {
			refuses(t, "63 bits", head()+one+plainNumber(api.IConst)+plainNumber(n))
		}
	}
	for _, x := range []api.Ins{of(api.IText, 0, 0), of(api.IJump, 0, 0, 1), of(api.IGrab, 1, 0), of(api.IOp, 12, 0), chooses([]int64{2, 1}, nil, 3).Code[0], chooses([]int64{2}, nil, 3).Code[0], of(api.IClosures, 0, 0), of(api.IClosures, 0, 0, make([]int, 31)...)} {
		refuses(t, "what may not be", head()+plainList([]api.Ins{x}, plainIns))
	}
}

// P16.2: what may not be but has bytes isn't decoded: too many of all, and names, too.
func TestBytesOfWhatMayNotBe(t *testing.T) {
	image := func(change func(i *api.Image)) string {
		i := with(stop)
		change(&i)
		return plainBytes(i)
	}
	refuses(t, "1001 texts", image(func(i *api.Image) { i.Texts = make([]string, 1001) }))
	refuses(t, "a long text", image(func(i *api.Image) { i.Texts[1] = strings.Repeat("a", 4097) }))
	refuses(t, "a long name", image(func(i *api.Image) { i.Exns = append(i.Exns, api.Exn{Name: strings.Repeat("a", 4097)}) }))
	refuses(t, "no name", image(func(i *api.Image) { i.Exns = append(i.Exns, api.Exn{}) }))
	refuses(t, "a name twice", image(func(i *api.Image) { i.Exns = append(i.Exns, api.Exn{Name: "End_of_file"}) }))
	refuses(t, "8001 instructions", image(func(i *api.Image) { i.Code = slices.Repeat(i.Code, 8001) }))
	refuses(t, "201 exceptions", image(func(i *api.Image) {
		for k := 6; k < 201; k++ {
			i.Exns = append(i.Exns, api.Exn{Name: strconv.Itoa(k)})
		}
	}))
	for k := range 6 {
		refuses(t, "another order", image(func(i *api.Image) { i.Exns[k], i.Exns[(k+1)%6] = i.Exns[(k+1)%6], i.Exns[k] }))
		refuses(t, "with and without", image(func(i *api.Image) { i.Exns[k].With = !i.Exns[k].With }))
	}
	whole := image(func(i *api.Image) { i.Code = slices.Repeat(i.Code, 8000) })
	if !decoded(t, "8000 instructions", []byte(whole)) || !decoded(t, "1000 texts", []byte(image(func(i *api.Image) { i.Texts = make([]string, 1000) }))) {
		t.Errorf("what may be")
	}
}

// P16.2: random bytes, and random numbers behind a true beginning.
func TestRandomBytes(t *testing.T) {
	t.Parallel()
	r := rand.New(rand.NewSource(7))
	is := map[bool]int{}
	for range 20000 {
		decoded(t, "random", []byte(madeBytes(r, 300)))
		decoded(t, "behind the mark", []byte("GR"+madeBytes(r, 300)))
		s := head(slices.Repeat([]string{"a"}, r.Intn(3))...)
		many := 1 + r.Intn(3)
		s += plainNumber(int64(many))
		for range many {
			op := 1 + r.Intn(30)
			s += plainNumber(int64(op))
			f, _ := fields(op)
			for range len(f) + 2*strings.Count(f, "s") + strings.Count(f, "P") + pick(r, 0, 0, 0, 0, 0, 1)*pick(r, 1, -1) {
				s += plainNumber(pick(r, 0, int64(r.Intn(3)), int64(r.Intn(14)), int64(r.Intn(100))))
			}
		}
		is[decoded(t, "numbers", []byte(s))]++
	}
	if is[true] < 1000 || is[false] < 1000 {
		t.Errorf("only %v", is)
	}
}

// P16.1, P16.3: random images there and back; what is changed in them.
func TestRandomImages(t *testing.T) {
	t.Parallel()
	is := map[bool]int{}
	for seed := range 6000 {
		i := made(seed, pick(rand.New(rand.NewSource(int64(seed))), 2, 10, 60))
		may(t, "made", i, true)
		encoded(t, "made", i)
		i = spoiled(rand.New(rand.NewSource(int64(seed))), i)
		ok := plainMay(i)
		is[ok]++
		may(t, "spoiled", i, ok)
		if ok {
			encoded(t, "spoiled", i)
		}
	}
	if is[true] < 1000 || is[false] < 1000 {
		t.Errorf("only %v", is)
	}
}

// P16.3: no image's bytes are the beginning of another one's, and unlike images have unlike bytes.
func TestNoBeginnings(t *testing.T) {
	var all []string
	for seed := range 3000 {
		all = append(all, string(encoded(t, "made", made(seed, 3))))
	}
	for seed := range 300 { // of the same beginning
		i := made(seed, 9)
		for k := 1; k < len(i.Code); k++ {
			j := i
			j.Code = i.Code[:k]
			if b, e := code.Encode(j); e == api.OK {
				all = append(all, string(b))
			}
		}
		all = append(all, string(encoded(t, "made", i)))
	}
	slices.Sort(all)
	all = slices.Compact(all)
	for k := 1; k < len(all); k++ {
		if strings.HasPrefix(all[k], all[k-1]) {
			t.Fatalf("%q is the beginning of %q", all[k-1], all[k])
		}
	}
	if len(all) < 3000 {
		t.Errorf("only %d", len(all))
	}
}
