package lam

import (
	"slices"

	"grapnel/api"
)

func (r *run) choose(f frame) {
	part := 2
	if yes(r.value) {
		part = 1
	}
	r.do(&f.parts[part], f.bound)
}

// partFor tells which part of an LSwitch a value leads to.
func partFor(l *api.Lam, v value) int {
	switch x := v.(type) {
	case number:
		if i, ok := slices.BinarySearch(l.Ns, int64(x)); ok {
			return 1 + i
		}
	case *block:
		if i, ok := slices.BinarySearch(l.Ts, x.tag); ok {
			return 1 + len(l.Ns) + i
		}
	}
	return len(l.L) - 1
}

// while goes from the condition to the body, as long as it holds, and back.
func (r *run) while(f frame) {
	switch {
	case f.part == 1:
		r.wait(f, 0)
	case yes(r.value):
		r.wait(f, 1)
	default:
		r.tell(unit)
	}
}

func (r *run) loop(f frame) {
	if f.part < bodyOfFor {
		r.arrive(f)
		return
	}
	i, _ := f.got[0].(number)
	f.got[0] = i + by(f.Lam)
	r.round(f)
}

func by(l *api.Lam) number {
	if l.N == 0 {
		return -1
	}
	return 1
}

// round begins an LFor's body anew, as long as its number isn't beyond. That isn't cut to 63 bits: so there is one beyond the greatest, too.
func (r *run) round(f frame) {
	i, to, ok := r.areNumbers(f.got[0], f.got[1])
	switch {
	case !ok:
	case by(f.Lam) > 0 && i > to, by(f.Lam) < 0 && i < to:
		r.tell(unit)
	default:
		r.put(f, bodyOfFor)
		r.do(&f.parts[bodyOfFor], f.bound.bind(i))
	}
}
