package infer

import (
	"slices"

	"grapnel/api"
)

// variable is one that is bound: its type, and what is general in that.
type variable struct {
	number  int
	t       api.Type
	general []int
}

// bond is a variable, and what the scope was ahead of it.
type bond struct {
	variable
	place int // that its number had
	held  int // how many types were held
}

// scope is the variables that are bound around.
type scope struct {
	bonds  []bond
	places map[int]int // where in bonds a number's variable stands, and 1 more; 0: nowhere
	held   []api.Type  // those that hold their variables fast: they aren't general where such a type is around
}

func (s *scope) bind(v variable) {
	s.bonds = append(s.bonds, bond{variable: v, place: s.places[v.number], held: len(s.held)})
	s.places[v.number] = len(s.bonds)
}

// hold binds a variable in whose type nothing is general.
func (s *scope) hold(number int, t api.Type) {
	s.bind(variable{number: number, t: t})
	s.held = append(s.held, t)
}

// leave takes away all variables but the first ones.
func (s *scope) leave(first int) {
	for i := len(s.bonds) - 1; i >= first; i-- {
		b := s.bonds[i]
		s.places[b.number] = b.place
		s.held = s.held[:b.held]
	}
	s.bonds = s.bonds[:first]
}

// generalized tells a variable in whose type all is general that isn't held.
// Such a variable holds nothing itself: what isn't general in its type is held by another one, which is around as long as it is.
func (f *finder) generalized(number int, t api.Type) variable {
	v := variable{number: number, t: t}
	all := f.table.Vars(t)
	if len(all) == 0 {
		return v
	}
	held := f.table.Vars(api.Type{S: "*", L: f.scope.held})
	slices.Sort(held)
	for _, x := range all {
		if _, ok := slices.BinarySearch(held, x); !ok {
			v.general = append(v.general, x)
		}
	}
	return v
}

// variable tells a variable's type, with new variables for those that are general.
func (f *finder) variable(c *api.Core) api.Type {
	place := f.scope.places[c.V]
	if place == 0 {
		return f.wrong(api.ErrForm, c.At)
	}
	v := f.scope.bonds[place-1].variable
	if len(v.general) == 0 {
		return v.t
	}
	if f.great(v.t) { // it must not even be written out: that it has grown may have made it of any size
		return f.wrong(api.ErrMany, c.At)
	}
	anew := map[int]api.Type{}
	for _, x := range v.general {
		anew[x] = f.fresh()
	}
	return instance(f.table.Resolve(v.t), anew)
}

// instance tells a type with others for some of its variables.
func instance(t api.Type, by map[int]api.Type) api.Type {
	if other, ok := by[t.V]; ok {
		return other
	}
	other := api.Type{V: t.V, S: t.S}
	for _, p := range t.L {
		other.L = append(other.L, instance(p, by))
	}
	return other
}
