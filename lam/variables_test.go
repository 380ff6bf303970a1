package lam

import "testing"

// R1: each place is found, and in few steps, however many values are bound.
func TestPlaces(t *testing.T) {
	const many = 20000
	var top *variable
	for i := range many {
		top = top.bind(number(i))
		if got := top.at(i / 3); top.place != i || got.place != i/3 || got.value != number(i/3) {
			t.Fatalf("%d: found %+v", i, got)
		}
	}
	for place := range many {
		steps := 0
		for v := top; v.place != place; steps++ {
			if v.jump.place >= place {
				v = v.jump
			} else {
				v = v.around
			}
		}
		if got := top.at(place); got.place != place || got.value != number(place) || steps > 60 {
			t.Fatalf("%d: found %+v, in %d steps", place, got, steps)
		}
	}
}
