package code_test

import (
	"math"
	"strings"

	"grapnel/api"
)

// fields tells what each instruction has, in the order of its bytes: A, B; p: one place; P: some, as a list; s: Ns, Ts and places, as lists.
func fields(op int) (string, bool) {
	switch op {
	case api.IConst, api.IText, api.IAcc, api.IEnv, api.ISelf, api.IPop, api.IAssign, api.IApply, api.IGrab, api.IReturn, api.IField, api.ISet, api.IOp, api.ICall:
		return "A", true
	case api.ITail, api.IBlock:
		return "AB", true
	case api.IFrame, api.IJump, api.IUnless, api.ITrap:
		return "p", true
	case api.IClosure:
		return "Ap", true
	case api.IClosures:
		return "AP", true
	case api.ISwitch:
		return "s", true
	case api.IPush, api.IRestart, api.IAt, api.IPut, api.IUntrap, api.IRaise, api.IStop:
		return "", true
	}
	return "", false
}

// between tells whether a number is one of these bounds, or between.
func between(n, least, most int64) bool { return n >= least && n <= most }

// mayA tells whether an instruction that has A may have this one, in an image of so many texts.
func mayA(op int, a int64, texts int) bool {
	switch op {
	case api.IConst:
		return between(a, -1<<62, 1<<62-1)
	case api.IText:
		return between(a, 0, int64(texts)-1)
	case api.IAcc, api.IPop, api.IAssign, api.IReturn:
		return between(a, 0, 8192)
	case api.IEnv, api.IField, api.ISet, api.IClosure:
		return between(a, 0, 4095)
	case api.ISelf:
		return between(a, -100, 100)
	case api.IApply, api.IGrab, api.ITail:
		return between(a, 1, 30)
	case api.IOp:
		return between(a, 1, 11) || between(a, 31, 42)
	case api.ICall:
		return between(a, 1, 12)
	case api.IBlock:
		return between(a, 0, 199)
	case api.IClosures:
		return between(a, 0, 4036)
	}
	return false
}

func mayB(op int, b int64) bool { return between(b, 0, 8192) && op == api.ITail || between(b, 0, 4096) }

// built tells the exceptions that are built in.
func built() []api.Exn {
	return []api.Exn{{Name: "Match_failure"}, {Name: "Division_by_zero"}, {Name: "Invalid_argument"}, {Name: "End_of_file"}, {Name: "Not_found"}, {Name: "Failure", With: true}}
}

// with tells an image of instructions, of two texts.
func with(l ...api.Ins) api.Image {
	return api.Image{Exns: built(), Texts: []string{"a", ""}, Code: l}
}

func of(op int, a, b int64, l ...int) api.Ins { return api.Ins{Op: op, A: a, B: b, L: l} }

var stop = api.Ins{Op: api.IStop}

// least tells the smallest instruction of an Op, that may be behind an IRestart.
func least(op int) api.Ins {
	x := api.Ins{Op: op}
	f, _ := fields(op)
	if strings.Contains(f, "A") && !mayA(op, 0, 1) {
		x.A = 1
	}
	if strings.ContainsAny(f, "pPs") {
		x.L = []int{0}
	}
	return x
}

// numbers tells numbers at all bounds, beside them, and far from them.
func numbers() []int64 {
	all := []int64{math.MaxInt64, math.MinInt64, math.MaxInt64 - 1, 1 << 32, 1<<32 + 1, -1 << 32}
	for _, n := range []int64{0, 1, 2, 11, 12, 30, 31, 42, 100, -100, 199, 200, 4036, 4095, 4096, 8192, 8000, 1 << 62, -1 << 62} {
		all = append(all, n-1, n, n+1)
	}
	return all
}

// plainNumber tells a number's bytes.
func plainNumber(n int64) string {
	u, s := uint64(n), ""
	for range 8 {
		s += string([]byte{byte(u % 256)})
		u /= 256
	}
	return s
}

func plainText(s string) string { return plainNumber(int64(len(s))) + s }

func plainList[T any](l []T, f func(T) string) string {
	var b strings.Builder
	b.WriteString(plainNumber(int64(len(l))))
	for _, x := range l {
		b.WriteString(f(x))
	}
	return b.String()
}

func plainPlace(p int) string { return plainNumber(int64(p)) }

func plainExn(x api.Exn) string {
	if x.With {
		return plainText(x.Name) + plainNumber(1)
	}
	return plainText(x.Name) + plainNumber(0)
}

func plainIns(x api.Ins) string {
	s := plainNumber(int64(x.Op))
	f, _ := fields(x.Op)
	for _, c := range f {
		switch c {
		case 'A':
			s += plainNumber(x.A)
		case 'B':
			s += plainNumber(x.B)
		case 'p':
			s += plainPlace(x.L[0])
		case 'P':
			s += plainList(x.L, plainPlace)
		case 's':
			s += plainList(x.Ns, plainNumber) + plainList(x.Ts, plainNumber) + plainList(x.L, plainPlace)
		}
	}
	return s
}

// plainBytes tells an image's bytes, as the chapter lays them.
func plainBytes(i api.Image) string {
	return "GR" + plainList(i.Exns, plainExn) + plainList(i.Texts, plainText) + plainList(i.Code, plainIns)
}

// plainMay tells whether an image may be, sentence by sentence.
func plainMay(i api.Image) bool {
	names := map[string]int{}
	for k, x := range i.Exns {
		names[x.Name]++
		if k < 6 && x != built()[k] || len(x.Name) == 0 || len(x.Name) > 4096 || names[x.Name] == 2 {
			return false
		}
	}
	for _, s := range i.Texts {
		if len(s) > 4096 {
			return false
		}
	}
	if len(i.Exns) < 6 || len(i.Exns) > 200 || len(i.Texts) > 1000 || len(i.Code) < 1 || len(i.Code) > 8000 {
		return false
	}
	for k, x := range i.Code {
		if !plainMayIns(x, len(i.Texts), len(i.Code)) || x.Op == api.IGrab && (k == 0 || i.Code[k-1].Op != api.IRestart) {
			return false
		}
	}
	return true
}

func plainRises(l []int64) bool {
	for k := range l {
		for j := range k {
			if l[j] >= l[k] {
				return false
			}
		}
	}
	return true
}

func plainMayIns(x api.Ins, texts, code int) bool {
	f, ok := fields(x.Op)
	a, b := strings.Contains(f, "A"), strings.Contains(f, "B")
	if !ok || a && !mayA(x.Op, x.A, texts) || !a && x.A != 0 || b && !mayB(x.Op, x.B) || !b && x.B != 0 {
		return false
	}
	for _, p := range x.L {
		if p < 0 || p >= code {
			return false
		}
	}
	switch {
	case strings.Contains(f, "s"):
		for _, n := range x.Ts {
			if n < 0 || n > 199 {
				return false
			}
		}
		return plainRises(x.Ns) && plainRises(x.Ts) && len(x.L) == len(x.Ns)+len(x.Ts)+1
	case len(x.Ns) > 0 || len(x.Ts) > 0:
		return false
	case strings.Contains(f, "p"):
		return len(x.L) == 1
	case strings.Contains(f, "P"):
		return len(x.L) >= 1 && len(x.L) <= 30
	}
	return len(x.L) == 0
}

// plainReader reads bytes; whatever can't be read sets bad.
type plainReader struct {
	s   string
	bad bool
}

func (r *plainReader) take(n int64) string {
	if r.bad || n < 0 || n > int64(len(r.s)) {
		r.bad = true
		return ""
	}
	s := r.s[:n]
	r.s = r.s[n:]
	return s
}

func (r *plainReader) number() int64 {
	s, u := r.take(8), uint64(0)
	for k := len(s) - 1; k >= 0; k-- {
		u = u*256 + uint64(s[k])
	}
	return int64(u)
}

// times does something as often as a number says that is read.
func (r *plainReader) times(do func()) {
	n := r.number()
	if n < 0 {
		r.bad = true
	}
	for ; n > 0 && !r.bad; n-- {
		do()
	}
}

func (r *plainReader) places() (all []int) {
	r.times(func() { all = append(all, int(r.number())) })
	return all
}

func (r *plainReader) list() (all []int64) {
	r.times(func() { all = append(all, r.number()) })
	return all
}

func (r *plainReader) ins() api.Ins {
	x := api.Ins{Op: int(r.number())}
	f, ok := fields(x.Op)
	r.bad = r.bad || !ok
	for _, c := range f {
		switch c {
		case 'A':
			x.A = r.number()
		case 'B':
			x.B = r.number()
		case 'p':
			x.L = []int{int(r.number())}
		case 'P':
			x.L = r.places()
		case 's':
			x.Ns = r.list()
			x.Ts = r.list()
			x.L = r.places()
		}
	}
	return x
}

// plainImage tells the image whose bytes these are; false: they are none's that may be.
func plainImage(b []byte) (i api.Image, ok bool) {
	r := &plainReader{s: string(b)}
	r.bad = r.take(2) != "GR"
	r.times(func() {
		x := api.Exn{Name: r.take(r.number())}
		flag := r.number()
		r.bad = r.bad || flag != 0 && flag != 1
		x.With = flag == 1
		i.Exns = append(i.Exns, x)
	})
	r.times(func() { i.Texts = append(i.Texts, r.take(r.number())) })
	r.times(func() { i.Code = append(i.Code, r.ins()) })
	return i, !r.bad && r.s == "" && plainMay(i)
}
