package model

import "grapnel/api"

// yes tells whether the value, a condition's, holds; false behind it: it can't be one. What has a type is 0 or 1 there.
func (r *run) yes() (bool, bool) {
	n, ok := is[number](r, r.value)
	return n != 0, ok
}

func (r *run) choose(f frame) {
	yes, ok := r.yes()
	switch {
	case !ok:
	case yes:
		r.do(partOf(f.Core, 1), f.bound)
	default:
		r.do(partOf(f.Core, 2), f.bound)
	}
}

// while goes from the condition to the body, as long as it holds, and back.
func (r *run) while(f frame) {
	if f.part == 1 {
		r.wait(f, 0)
		return
	}
	yes, ok := r.yes()
	switch {
	case !ok:
	case yes:
		r.wait(f, 1)
	default:
		r.tell(unit)
	}
}

// bodyOfFor is the part of a KFor that comes behind both bounds.
const bodyOfFor = 2

func (r *run) loop(f frame) {
	if f.part < bodyOfFor {
		r.arrive(f)
		return
	}
	i, _ := f.got[0].(number)
	f.got[0] = i + by(f.Core)
	r.round(f)
}

func by(c *api.Core) number {
	if c.N == 0 {
		return -1
	}
	return 1
}

// round begins a KFor's body anew, as long as its number isn't beyond. That isn't cut to 63 bits: so there is one beyond the greatest, too.
func (r *run) round(f frame) {
	to, ok := is[number](r, f.got[1])
	if !ok {
		return
	}
	i, ok := is[number](r, f.got[0])
	switch {
	case !ok:
	case by(f.Core) > 0 && i > to, by(f.Core) < 0 && i < to:
		r.tell(unit)
	default:
		f.part = bodyOfFor
		r.put(f)
		r.do(partOf(f.Core, bodyOfFor), f.bound.bind(f.V, i))
	}
}

// match goes on with a KMatch or a KTry whose first part, or the guard of a case of which, has come to the value.
func (r *run) match(f frame) {
	switch {
	case f.part > 0 && r.value == number(1):
		r.do(partOf(&f.L[f.part], 2), f.inner)
	case f.part > 0:
		r.cases(f, f.part+1)
	case f.Kind == api.KMatch:
		f.got = []value{r.value}
		r.cases(f, 1)
	}
	// nothing was raised in a KTry's first part: the value is the KTry's, too
}

// cases goes on with the first case from that one on that is met; where there is none, something is raised.
func (r *run) cases(f frame, from int) {
	switch {
	case r.met(f, from):
	case f.Kind == api.KTry:
		r.raise(f.got[0])
	default:
		r.raise(exnMatch)
	}
}

// met goes on with the first case from that one on whose pattern is met: with its guard, if it has one; false: there is no such case.
func (r *run) met(f frame, from int) bool {
	for i := from; i < len(f.L); i++ {
		arm := &f.L[i]
		inner, ok := meets(partOf(arm, 0), f.got[0], f.bound)
		switch {
		case !ok:
			continue
		case len(arm.L) > 2:
			f.part, f.inner = i, inner
			r.put(f)
		}
		r.do(partOf(arm, 1), inner)
		return true
	}
	return false
}
