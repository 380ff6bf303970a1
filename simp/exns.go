package simp

import (
	"slices"

	"grapnel/api"
)

// mostApart is up to how many nodes exceptions' types are laid anew each by itself. Types of more nodes are nearly all made of shared parts, and apart there may be no room for them: what is shared stays so in the answer, too.
const mostApart = 1 << 23

// copiedExns tells exceptions anew.
func copiedExns(l []api.Con) []api.Con {
	copies := &typeCopies{}
	if !fitApart(l) {
		copies.known = map[typeList][]api.Type{}
	}
	all := slices.Clone(l)
	for i := range all {
		all[i].Of = copies.of(all[i].Of)
	}
	return all
}

// fitApart tells whether exceptions' types are to be laid anew each by itself.
func fitApart(l []api.Con) bool {
	left := mostApart
	for _, x := range l {
		eachType(x.Of, func(*api.Type) bool {
			left--
			return left >= 0
		})
	}
	return left >= 0
}

// eachType goes through types and their parts, each type ahead of its parts, which are passed by where enter tells false. It keeps a list of its own, since types may be nested deeper than calls.
func eachType(l []api.Type, enter func(t *api.Type) bool) {
	rests := [][]api.Type{l}
	for len(rests) > 0 {
		last := len(rests) - 1
		if len(rests[last]) == 0 {
			rests = rests[:last]
			continue
		}
		t := &rests[last][0]
		rests[last] = rests[last][1:]
		if enter(t) {
			rests = append(rests, t.L)
		}
	}
}

// typeList is where a list of types stands.
type typeList struct {
	first *api.Type
	many  int
}

// typeCopies lays types anew. Lists that are known already aren't laid once more.
type typeCopies struct {
	known map[typeList][]api.Type // nothing, if each is laid by itself
}

// of tells types anew.
func (c *typeCopies) of(l []api.Type) []api.Type {
	anew, _ := c.list(l)
	eachType(anew, func(t *api.Type) bool {
		var isNew bool
		t.L, isNew = c.list(t.L)
		return isNew
	})
	return anew
}

// list tells a list anew, whose types have their parts still from what was handed; false: it was known, or there is nothing in it.
func (c *typeCopies) list(l []api.Type) ([]api.Type, bool) {
	if len(l) == 0 {
		return nil, false
	}
	where := typeList{&l[0], len(l)}
	if anew, ok := c.known[where]; ok {
		return anew, false
	}
	anew := make([]api.Type, len(l))
	copy(anew, l)
	if c.known != nil {
		c.known[where] = anew
	}
	return anew, true
}
