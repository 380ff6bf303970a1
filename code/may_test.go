package code_test

import (
	"math"
	"slices"
	"strconv"
	"strings"
	"testing"

	"grapnel/api"
	"grapnel/code"
)

// may holds what May tells of an image, and that Encode goes by it.
func may(t *testing.T, name string, i api.Image, want bool) {
	t.Helper()
	if is := code.May(i); is != want || is != plainMay(i) {
		t.Errorf("%s: %v", name, is)
	}
	b, e := code.Encode(i)
	if want && e != api.OK && e != api.ErrMany || !want && e != api.ErrForm || e != api.OK && b != nil {
		t.Errorf("%s: Encode tells %d", name, e)
	}
}

// P16.1: there are just these instructions.
func TestInstructions(t *testing.T) {
	for op := -2; op <= 300; op++ {
		may(t, "op "+strconv.Itoa(op), with(api.Ins{Op: api.IRestart}, least(op)), op >= api.IConst && op <= api.IStop)
	}
	for _, op := range []int{math.MaxInt, math.MinInt, 1<<32 + api.IStop, 1<<62 + api.IPush, -api.IStop} {
		may(t, "op "+strconv.Itoa(op), with(api.Ins{Op: op}), false)
	}
}

// P16.1: A and B at all bounds and beside them, in each instruction.
func TestNumbers(t *testing.T) {
	for op := api.IConst; op <= api.IStop; op++ {
		f, _ := fields(op)
		for _, a := range numbers() {
			x := least(op)
			x.A = a
			may(t, strconv.Itoa(op)+" "+strconv.FormatInt(a, 10), with(api.Ins{Op: api.IRestart}, x), strings.Contains(f, "A") && mayA(op, a, 2) || a == 0 && f == strings.Trim(f, "A"))
			for _, b := range numbers() {
				x.B = b
				i := with(api.Ins{Op: api.IRestart}, x)
				if code.May(i) != plainMay(i) {
					t.Errorf("%v", x)
				}
			}
		}
	}
	for _, c := range []struct {
		op, a, b int64
		is       bool
	}{
		{api.IConst, 1<<62 - 1, 0, true}, {api.IConst, 1 << 62, 0, false}, {api.IConst, -1 << 62, 0, true}, {api.IConst, -1<<62 - 1, 0, false}, {api.IConst, 5, 1, false}, {api.IText, 1, 0, true}, {api.IText, 2, 0, false}, {api.IText, -1, 0, false},
		{api.IAcc, 8192, 0, true}, {api.IAcc, 8193, 0, false}, {api.IAcc, -1, 0, false}, {api.IPop, 8192, 0, true}, {api.IPop, 8193, 0, false}, {api.IAssign, 8192, 0, true}, {api.IAssign, 8193, 0, false}, {api.IReturn, 8192, 0, true}, {api.IReturn, 8193, 0, false}, {api.IReturn, -1, 0, false},
		{api.IEnv, 4095, 0, true}, {api.IEnv, 4096, 0, false}, {api.IField, 4095, 0, true}, {api.IField, 4096, 0, false}, {api.ISet, 4095, 0, true}, {api.ISet, 4096, 0, false}, {api.ISet, -1, 0, false}, {api.ISelf, 100, 0, true}, {api.ISelf, 101, 0, false}, {api.ISelf, -100, 0, true}, {api.ISelf, -101, 0, false},
		{api.IApply, 0, 0, false}, {api.IApply, 1, 0, true}, {api.IApply, 30, 0, true}, {api.IApply, 31, 0, false}, {api.IOp, 0, 0, false}, {api.IOp, api.OpAdd, 0, true}, {api.IOp, api.OpLess, 0, true}, {api.IOp, 12, 0, false}, {api.IOp, 30, 0, false}, {api.IOp, api.OpNeg, 0, true}, {api.IOp, api.OpAssign, 0, true}, {api.IOp, 43, 0, false},
		{api.ICall, 0, 0, false}, {api.ICall, 1, 0, true}, {api.ICall, 12, 0, true}, {api.ICall, 13, 0, false}, {api.ITail, 1, 0, true}, {api.ITail, 30, 8192, true}, {api.ITail, 31, 0, false}, {api.ITail, 0, 0, false}, {api.ITail, 1, 8193, false}, {api.ITail, 1, -1, false},
		{api.IBlock, 199, 4096, true}, {api.IBlock, 200, 0, false}, {api.IBlock, 0, 4097, false}, {api.IBlock, 0, -1, false}, {api.IBlock, -1, 0, false}, {api.IPush, 1, 0, false}, {api.IPush, 0, 1, false}, {api.IStop, 0, -1, false}, {api.IRestart, 1, 0, false},
	} {
		may(t, strconv.FormatInt(c.op, 10)+" "+strconv.FormatInt(c.a, 10)+" "+strconv.FormatInt(c.b, 10), with(of(int(c.op), c.a, c.b)), c.is)
	}
}

// P16.1: an instruction has just the fields that its Op has; a list without elements is none.
func TestJustItsFields(t *testing.T) {
	for op := api.IConst; op <= api.IStop; op++ {
		f, _ := fields(op)
		image := func(change func(x *api.Ins)) api.Image {
			x := least(op)
			change(&x)
			return with(api.Ins{Op: api.IRestart}, x, stop)
		}
		name := "op " + strconv.Itoa(op)
		may(t, name, image(func(x *api.Ins) { x.Ns, x.Ts, x.L = []int64{}, make([]int64, 0, 3), append([]int{}, x.L...) }), true)
		may(t, name+", Ns", image(func(x *api.Ins) { x.Ns, x.L = []int64{7}, append(x.L, 0) }), f == "s")
		may(t, name+", Ns alone", image(func(x *api.Ins) { x.Ns = []int64{0} }), false)
		may(t, name+", Ts", image(func(x *api.Ins) { x.Ts, x.L = []int64{7}, append(x.L, 0) }), f == "s")
		may(t, name+", Ts alone", image(func(x *api.Ins) { x.Ts = []int64{0} }), false)
		for many := range 35 {
			want := many == 0
			switch {
			case strings.Contains(f, "p"), f == "s":
				want = many == 1
			case strings.Contains(f, "P"):
				want = many >= 1 && many <= 30
			}
			may(t, name+", "+strconv.Itoa(many)+" places", image(func(x *api.Ins) { x.L = slices.Repeat([]int{2}, many) }), want)
		}
	}
}

// P16.1: all in L are places in the Code.
func TestPlaces(t *testing.T) {
	for op := api.IConst; op <= api.IStop; op++ {
		f, _ := fields(op)
		if !strings.ContainsAny(f, "pPs") {
			continue
		}
		for _, many := range []int{1, 2, 3, 100, 8000} {
			for _, p := range []int{-1, 0, 1, 2, 3, 99, 100, 7999, 8000, math.MaxInt, math.MinInt, 1 << 32, -1 << 32, 4096} {
				x := least(op)
				x.L = []int{p}
				l := append(slices.Repeat([]api.Ins{stop}, many-1), x)
				may(t, strconv.Itoa(op)+" to "+strconv.Itoa(p)+" of "+strconv.Itoa(many), with(l...), p >= 0 && p < many)
			}
		}
		for k := range 4 { // each of several
			l := []int{0, 1, 2, 3}
			x := api.Ins{Op: op, L: l}
			switch f {
			case "s":
				x.Ns, x.Ts = []int64{1, 2}, []int64{4}
			case "AP":
			default:
				continue
			}
			i := with(x, stop, stop, stop)
			may(t, "several", i, true)
			l[k] = 4
			may(t, "several", i, false)
			l[k] = -1
			may(t, "several", i, false)
		}
	}
}

// P16.1: ahead of an IGrab stands an IRestart.
func TestGrab(t *testing.T) {
	grab, restart := of(api.IGrab, 2, 0), api.Ins{Op: api.IRestart}
	may(t, "first", with(grab), false)
	may(t, "first, then an IRestart", with(grab, restart), false)
	may(t, "behind one", with(restart, grab, stop), true)
	may(t, "behind one, later", with(stop, restart, grab), true)
	may(t, "further behind", with(restart, stop, grab), false)
	may(t, "twice", with(restart, grab, grab), false)
	may(t, "each with its own", with(restart, grab, restart, grab), true)
	may(t, "IRestart alone", with(restart), true)
	may(t, "two ahead", with(restart, restart, grab), true)
	for op := api.IConst; op <= api.IStop; op++ {
		if op != api.IRestart && op != api.IGrab {
			may(t, "behind op "+strconv.Itoa(op), with(least(op), grab), false)
		}
	}
}

func chooses(ns, ts []int64, places int) api.Image {
	return with(api.Ins{Op: api.ISwitch, Ns: ns, Ts: ts, L: make([]int, places)})
}

// P16.1: of an ISwitch Ns rise, Ts rise and are tags, L is one more than both.
func TestSwitches(t *testing.T) {
	for _, c := range []struct {
		ns, ts []int64
		is     bool
	}{
		{nil, nil, true}, {[]int64{}, []int64{}, true}, {[]int64{0}, nil, true}, {[]int64{-5, 0, 7}, nil, true}, {[]int64{0, 0}, nil, false}, {[]int64{1, 0}, nil, false}, {[]int64{0, 1, 1}, nil, false}, {[]int64{0, 2, 1, 3}, nil, false}, {[]int64{5, 1, 2}, nil, false}, {[]int64{math.MinInt64, -1 << 62, 1 << 62, math.MaxInt64}, nil, true}, {[]int64{math.MaxInt64, math.MinInt64}, nil, false},
		{nil, []int64{0}, true}, {nil, []int64{199}, true}, {nil, []int64{200}, false}, {nil, []int64{-1}, false}, {nil, []int64{0, 199}, true}, {nil, []int64{0, 200}, false}, {nil, []int64{-1, 0}, false}, {nil, []int64{3, 3}, false}, {nil, []int64{3, 2}, false}, {nil, []int64{1, 5, 4}, false}, {nil, []int64{1, math.MaxInt64}, false}, {nil, []int64{math.MinInt64, 1}, false}, {[]int64{5}, []int64{2, 3}, true}, {[]int64{5}, []int64{5}, true}, {[]int64{5, 4}, []int64{5}, false}, {[]int64{5}, []int64{5, 5}, false},
	} {
		all := len(c.ns) + len(c.ts) + 1
		for places := range all + 3 {
			may(t, "switch", chooses(c.ns, c.ts, places), c.is && places == all)
		}
	}
	tags := make([]int64, 200)
	for k := range tags {
		tags[k] = int64(k)
	}
	may(t, "all tags", chooses(nil, tags, 201), true)
	may(t, "one more", chooses(nil, append(tags, 200), 202), false)
	many := make([]int64, 4000)
	for k := range many {
		many[k] = int64(k * k)
	}
	may(t, "many numbers", chooses(many, tags, 4201), true)
	many[3999] = many[3998]
	may(t, "the last one doesn't rise", chooses(many, tags, 4201), false)
}

// P16.1: the exceptions.
func TestExns(t *testing.T) {
	image := func(l ...api.Exn) api.Image { return api.Image{Exns: l, Code: []api.Ins{stop}} }
	may(t, "built in", image(built()...), true)
	for k := range 6 {
		may(t, "too few", image(built()[:k]...), false)
		may(t, "one missing", image(slices.Delete(built(), k, k+1)...), false)
		may(t, "one missing, another behind", image(append(slices.Delete(built(), k, k+1), built()[k])...), k == 5)
		l := built()
		l[k].With = !l[k].With
		may(t, "with and without", image(l...), false)
		l = built()
		l[k].Name += "s"
		may(t, "another name", image(l...), false)
		l = built()
		l[k].Name = strings.ToLower(l[k].Name)
		may(t, "small letters", image(l...), false)
		l = built()
		l[k], l[(k+1)%6] = l[(k+1)%6], l[k]
		may(t, "another order", image(l...), false)
		may(t, "one ahead", image(slices.Insert(built(), k, api.Exn{Name: "x"})...), false)
		may(t, "twice", image(append(built(), built()[k])...), false)
		may(t, "twice, otherwise", image(append(built(), api.Exn{Name: built()[k].Name, With: k < 5})...), false)
	}
	for name, want := range map[string]bool{"": false, "x": true, " ": true, "\x00": true, "\xff\xfe": true, "failure": true, "Failure ": true, "Failure": false, strings.Repeat("n", 4095): true, strings.Repeat("n", 4096): true, strings.Repeat("n", 4097): false, strings.Repeat("n", 1<<20): false} {
		for _, is := range []bool{false, true} {
			may(t, "a name", image(append(built(), api.Exn{Name: name, With: is})...), want)
			may(t, "a name, another behind", image(append(built(), api.Exn{Name: name, With: is}, api.Exn{Name: "z"})...), want)
		}
	}
	may(t, "two alike", image(append(built(), api.Exn{Name: "a"}, api.Exn{Name: "b"}, api.Exn{Name: "a", With: true})...), false)
	l := built()
	for k := 6; k < 203; k++ {
		l = append(l, api.Exn{Name: "e" + strconv.Itoa(k), With: k%2 == 0})
		may(t, "many", image(l...), k < 200)
	}
	may(t, "the last one of the most twice", image(append(l[:199:199], l[198])...), false)
}

// P16.1: the texts.
func TestTexts(t *testing.T) {
	image := func(l ...string) api.Image { return api.Image{Exns: built(), Texts: l, Code: []api.Ins{stop}} }
	for n, want := range map[int]bool{0: true, 1: true, 999: true, 1000: true, 1001: false, 100000: false} {
		may(t, strconv.Itoa(n)+" texts", image(make([]string, n)...), want)
		may(t, strconv.Itoa(n)+" alike", image(slices.Repeat([]string{"abc"}, n)...), want)
	}
	for n, want := range map[int]bool{0: true, 1: true, 4095: true, 4096: true, 4097: false, 1 << 20: false} {
		s := strings.Repeat("\xff", n)
		may(t, strconv.Itoa(n)+" bytes", image(s), want)
		may(t, strconv.Itoa(n)+" bytes, not first", image("a", s), want)
		may(t, strconv.Itoa(n)+" bytes, not last", image(s, "a"), want)
	}
	for texts := range 4 {
		i := image(make([]string, texts)...)
		for a := range 5 {
			i.Code = []api.Ins{of(api.IText, int64(a), 0)}
			may(t, "a text's place", i, a < texts)
		}
	}
}

// P16.1: how many instructions there are.
func TestHowMany(t *testing.T) {
	for n, want := range map[int]bool{0: false, 1: true, 2: true, 7999: true, 8000: true, 8001: false, 1 << 20: false} {
		may(t, strconv.Itoa(n)+" instructions", with(slices.Repeat([]api.Ins{stop}, n)...), want)
	}
	may(t, "nothing", api.Image{}, false)
	may(t, "no exceptions", api.Image{Code: []api.Ins{stop}}, false)
	may(t, "no code", api.Image{Exns: built()}, false)
	for _, k := range []int{0, 1, 50, 98, 99} { // each instruction counts
		l := slices.Repeat([]api.Ins{stop}, 100)
		l[k].A = 1
		may(t, "one that may not be", with(l...), false)
	}
}
