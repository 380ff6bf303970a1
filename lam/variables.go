package lam

// variable is what is bound in a place, and leads to what is bound around it, in the places below. What stands far around is found by jumps, in few steps, however much is bound.
type variable struct {
	value  value
	place  int
	around *variable
	jump   *variable
}

// mark stands among what is bound around an LCatch's first part: how many frames waited as that began. So an LExit finds them, and the LCatch itself needn't wait.
type mark int

// bind binds a value beside v and what that leads to.
func (v *variable) bind(to value) *variable {
	more := &variable{value: to, around: v}
	if v == nil {
		more.jump = more
		return more
	}
	more.place, more.jump = v.place+1, v
	if far := v.jump; v.place-far.place == far.place-far.jump.place {
		more.jump = far.jump // two jumps of one length become one
	}
	return more
}

// bindAll binds values, each beside the ones ahead of it.
func (v *variable) bindAll(to []value) *variable {
	for _, x := range to {
		v = v.bind(x)
	}
	return v
}

// at tells what is bound in a place: there is something, as v stands in that place or above.
func (v *variable) at(place int) *variable {
	for v.place > place {
		if v.jump.place >= place {
			v = v.jump
		} else {
			v = v.around
		}
	}
	return v
}
