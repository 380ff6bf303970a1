package model

import "grapnel/api"

// run is a run under way. What waits for a value stands on a list, not in calls within each other: there may be a great deal of it.
type run struct {
	exns    []api.Con
	lines   []string
	fuel    int64
	next    *api.Core // what is worked out next, with these variables; none: value is what was
	bound   *variable
	value   value
	waiting []frame // the last one gets the value
	out     []byte
	end     Ending // of no kind, as long as there is none
}

// frame is a node that waits for what a part of it comes to.
type frame struct {
	*api.Core
	bound *variable
	part  int
	got   []value   // what parts have come to
	inner *variable // of a case whose guard is the part: what its pattern has bound, too
}

func (r *run) step() {
	if r.next != nil {
		r.begin(frame{Core: r.next, bound: r.bound})
		return
	}
	if f, ok := r.take(); ok {
		r.goOn(f)
		return
	}
	r.stop(Ended)
}

// do has a node worked out next.
func (r *run) do(c *api.Core, bound *variable) { r.next, r.bound = c, bound }

// tell has a value be what the node under way comes to.
func (r *run) tell(v value) { r.next, r.value = nil, v }

func (r *run) stop(kind int) { r.end.Kind = kind }

func (r *run) put(f frame) { r.waiting = append(r.waiting, f) }

// take tells the frame that the value is for; false: there is none.
func (r *run) take() (frame, bool) {
	last := len(r.waiting) - 1
	if last < 0 {
		return frame{}, false
	}
	f := r.waiting[last]
	r.waiting[last] = frame{} // what it led to needn't be kept
	r.waiting = r.waiting[:last]
	return f, true
}

// wait has a frame's part worked out, and the frame wait for it.
func (r *run) wait(f frame, part int) {
	f.part = part
	r.put(f)
	r.do(partOf(f.Core, part), f.bound)
}

// partOf tells a node's part. Resolve tells no node that lacks one: for it stands a node that can't be worked out.
func partOf(c *api.Core, part int) *api.Core {
	if part < len(c.L) {
		return &c.L[part]
	}
	return &api.Core{}
}

// goOn goes on with a frame whose part has come to the value.
func (r *run) goOn(f frame) {
	switch f.Kind {
	case api.KLet:
		r.do(partOf(f.Core, 1), f.bound.bind(f.V, r.value))
	case api.KSeq:
		r.do(partOf(f.Core, 1), f.bound)
	case api.KIf:
		r.choose(f)
	case api.KMatch, api.KTry:
		r.match(f)
	case api.KWhile:
		r.while(f)
	case api.KFor:
		r.loop(f)
	default:
		r.arrive(f)
	}
}

// arrive goes on with the part to the left, or with what is to be done with all.
func (r *run) arrive(f frame) {
	f.got[f.part] = r.value
	if f.part == 0 {
		r.finish(f)
		return
	}
	r.wait(f, f.part-1)
}
