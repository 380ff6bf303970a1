package types

import (
	"math"

	"grapnel/api"
)

// size tells how many nodes a resolved has, or most + 1, if that is less.
func (t *Table) size(a api.Type, most int) int {
	clear(t.met)
	if most < math.MaxInt {
		most++
	}
	return t.nodes(a, most)
}

// nodes tells how many nodes a resolved has, or room, if that is less.
// What is kept in met is too small only where the room is used up, and then nothing is asked any more.
func (t *Table) nodes(a api.Type, room int) int {
	if a.V != 0 {
		return t.nodesOf(t.last(a.V), room)
	}
	n := 1
	for _, p := range a.L {
		if n == room {
			break
		}
		n += t.nodes(p, room-n)
	}
	return n
}

// nodesOf tells the same of a variable that is that one at last.
func (t *Table) nodesOf(v, room int) int {
	n, ok := t.met[v]
	if !ok {
		n = t.nodes(t.known[v], room) // of one of which nothing is known: 1, as of a name without parts
		t.met[v] = n
	}
	return min(n, room)
}

// vars tells the variables in a resolved, from the left, each once.
func (t *Table) vars(a api.Type) []int {
	clear(t.met)
	return t.others(a, nil)
}

// others tells all, and behind them the variables in a resolved that weren't met.
func (t *Table) others(a api.Type, all []int) []int {
	for _, p := range a.L {
		all = t.others(p, all)
	}
	if a.V == 0 {
		return all
	}
	v := t.last(a.V)
	if _, ok := t.met[v]; ok {
		return all
	}
	t.met[v] = v
	is, ok := t.known[v]
	if !ok {
		return append(all, v)
	}
	return t.others(is, all)
}

// resolve writes a type out, in new memory.
func (t *Table) resolve(a api.Type) api.Type {
	a = t.shorten(a)
	is, ok := t.name(a)
	if !ok {
		return a
	}
	r := api.Type{S: is.S}
	for _, p := range is.L {
		r.L = append(r.L, t.resolve(p))
	}
	return r
}
