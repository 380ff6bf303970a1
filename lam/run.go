package lam

import "grapnel/api"

// run is a run under way. What waits for a value stands on a list, not in calls within each other: there may be a great deal of it.
type run struct {
	world
	next    *node // what is worked out next, where this is bound; none: the world's value is what was
	bound   *variable
	waiting []frame // the last one gets the value
}

// frame is a node that waits for what a part of it comes to.
type frame struct {
	*node
	bound *variable
	part  int
	got   []value // what parts have come to
}

func (r *run) step() {
	switch n := r.next; {
	case n != nil:
		r.next = nil
		r.begin(frame{node: n, bound: r.bound})
	case r.raised:
		r.goBack()
	default:
		r.goOn()
	}
}

// do has a node worked out next.
func (r *run) do(n *node, bound *variable) { r.next, r.bound = n, bound }

// put has a frame wait for what its part comes to.
func (r *run) put(f frame, part int) {
	f.part = part
	r.waiting = append(r.waiting, f)
}

// wait has a frame's part worked out, and the frame wait for it.
func (r *run) wait(f frame, part int) {
	r.put(f, part)
	r.do(&f.parts[part], f.bound)
}

// take tells the frame that waited last; false: there is none.
func (r *run) take() (frame, bool) {
	last := len(r.waiting) - 1
	if last < 0 {
		return frame{}, false
	}
	f := r.waiting[last]
	r.cut(last)
	return f, true
}

// cut leaves so many frames waiting; what the others led to needn't be kept.
func (r *run) cut(many int) {
	clear(r.waiting[many:])
	r.waiting = r.waiting[:many]
}

// goBack goes back to the nearest LTry whose first part is under way.
func (r *run) goBack() {
	for f, ok := r.take(); ok; f, ok = r.take() {
		if f.Kind == api.LTry {
			r.raised = false
			r.do(&f.parts[1], f.bound.bind(r.value))
			return
		}
	}
	r.uncaught()
}

// goOn goes on with the frame that waits for the value.
func (r *run) goOn() {
	f, ok := r.take()
	if !ok {
		r.stop(Ended)
		return
	}
	switch f.Kind {
	case api.LTry:
		// nothing was raised: the value is the LTry's, too
	case api.LLet:
		r.do(&f.parts[1], f.bound.bind(r.value))
	case api.LSeq:
		r.do(&f.parts[1], f.bound)
	case api.LIf:
		r.choose(f)
	case api.LSwitch:
		r.do(&f.parts[partFor(f.Lam, r.value)], f.bound)
	case api.LWhile:
		r.while(f)
	case api.LFor:
		r.loop(f)
	default:
		r.arrive(f)
	}
}

// arrive goes on with the part to the left, or with what is to be done with all.
func (r *run) arrive(f frame) {
	f.got[f.part] = r.value
	if f.part == 0 {
		r.finish(f)
		return
	}
	r.wait(f, f.part-1)
}
