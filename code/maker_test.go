package code_test

import (
	"math/rand"
	"strconv"
	"strings"

	"grapnel/api"
)

func pick[T any](r *rand.Rand, all ...T) T { return all[r.Intn(len(all))] }

// madeRising tells numbers that rise, in their bounds.
func madeRising(r *rand.Rand, least, most int64) []int64 {
	var all []int64
	for n := least + r.Int63n(3); n <= most && r.Intn(5) > 0; n += 1 + r.Int63n(pick(r, int64(1), 40)) {
		all = append(all, n)
	}
	return all
}

// madeWithin tells a number that may be A or B, as told by may.
func madeWithin(r *rand.Rand, may func(n int64) bool) int64 {
	for {
		n := pick(r, int64(r.Intn(5)), int64(r.Intn(50)), int64(r.Intn(9000)), r.Int63n(1<<62), -r.Int63n(1<<62), -r.Int63n(101))
		if may(n) {
			return n
		}
	}
}

func madePlaces(r *rand.Rand, many, code int) []int {
	var all []int
	for range many {
		all = append(all, r.Intn(code))
	}
	return all
}

// madeIns tells an instruction that may be in an image of so many texts and instructions; no IGrab.
func madeIns(r *rand.Rand, texts, code int) api.Ins {
	x := api.Ins{Op: api.IConst + r.Intn(api.IStop)}
	for x.Op == api.IGrab || x.Op == api.IText && texts == 0 {
		x.Op = api.IConst + r.Intn(api.IStop)
	}
	f, _ := fields(x.Op)
	for _, c := range f {
		switch c {
		case 'A':
			x.A = madeWithin(r, func(n int64) bool { return mayA(x.Op, n, texts) })
		case 'B':
			x.B = madeWithin(r, func(n int64) bool { return mayB(x.Op, n) })
		case 'p':
			x.L = madePlaces(r, 1, code)
		case 'P':
			x.L = madePlaces(r, 1+r.Intn(30), code)
		case 's':
			x.Ns = madeRising(r, pick[int64](r, 0, -1<<63, -5, 1<<62), 1<<62+1000)
			x.Ts = madeRising(r, 0, 199)
			x.L = madePlaces(r, len(x.Ns)+len(x.Ts)+1, code)
		}
	}
	return x
}

func madeBytes(r *rand.Rand, most int) string {
	b := make([]byte, r.Intn(most+1))
	r.Read(b)
	return string(b)
}

// made tells a random image that may be, of up to so many instructions.
func made(seed, most int) api.Image {
	r := rand.New(rand.NewSource(int64(seed)))
	i := api.Image{Exns: built()}
	for k := range r.Intn(4) {
		i.Exns = append(i.Exns, api.Exn{Name: pick(r, "e", "\x00", "Failure", "Not_found") + strconv.Itoa(k) + madeBytes(r, 5), With: r.Intn(2) == 0})
	}
	for range r.Intn(4) {
		i.Texts = append(i.Texts, madeBytes(r, pick(r, 0, 3, 20)))
	}
	for code := 1 + r.Intn(most); len(i.Code) < code; {
		if len(i.Code)+1 < code && r.Intn(8) == 0 {
			i.Code = append(i.Code, api.Ins{Op: api.IRestart}, api.Ins{Op: api.IGrab, A: 1 + r.Int63n(30)})
			continue
		}
		i.Code = append(i.Code, madeIns(r, len(i.Texts), code))
	}
	return i
}

// spoiled changes one thing of an image, which may be no image's then.
func spoiled(r *rand.Rand, i api.Image) api.Image {
	all := numbers()
	x := &i.Code[r.Intn(len(i.Code))]
	switch r.Intn(12) {
	case 0:
		x.A = pick(r, all...)
	case 1:
		x.B = pick(r, all...)
	case 2:
		x.Op = pick(r, int(pick(r, all...)), r.Intn(33))
	case 3:
		x.L = append(x.L, r.Intn(len(i.Code)))
	case 4:
		x.L = x.L[:r.Intn(len(x.L)+1)]
	case 5:
		x.Ns = append(x.Ns, pick(r, all...))
	case 6:
		x.Ts = append(x.Ts, pick(r, all...))
	case 7:
		for k := range x.L {
			x.L[k] = pick(r, x.L[k], len(i.Code), -1, len(i.Code)-1)
		}
	case 8:
		i.Code = i.Code[:r.Intn(len(i.Code)+1)]
	case 9:
		i.Exns = i.Exns[:r.Intn(len(i.Exns)+1)]
	case 10:
		e := &i.Exns[r.Intn(len(i.Exns))]
		e.With = !e.With
	case 11:
		e := &i.Exns[r.Intn(len(i.Exns))]
		e.Name = pick(r, "", "Failure", "e0", strings.Repeat("x", 4097), strings.Repeat("x", 4096))
	}
	return i
}
