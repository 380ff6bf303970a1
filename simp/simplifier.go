package simp

import "grapnel/api"

// simplifier makes nodes simpler, each behind its parts: so a node is asked about as it stands then, and what is told needs no second look.
type simplifier struct {
	known facts
	exits map[int64]int // how many LExits lead to an LCatch around, by its number
	spare int           // how many nodes were spare
}

func newSimplifier() *simplifier {
	return &simplifier{known: facts{}, exits: map[int64]int{}}
}

// simpler tells what a node becomes.
func (s *simplifier) simpler(c api.Lam) api.Lam {
	switch c.Kind {
	case api.LVar:
		return s.known.stand(c.V)
	case api.LLet:
		return s.let(c)
	case api.LSeq:
		return s.sequence(c)
	case api.LIf, api.LSwitch:
		return s.choice(c)
	case api.LOp:
		return s.operation(c)
	case api.LCatch:
		return s.catch(c)
	case api.LExit:
		s.exits[c.N]++
	}
	return s.kept(c)
}

// kept tells a node that stays: its first parts, if they are told, are as they have become; the others are made simpler.
func (s *simplifier) kept(c api.Lam, parts ...api.Lam) api.Lam {
	for _, part := range c.L[len(parts):] {
		parts = append(parts, s.simpler(part))
	}
	c.L, c.Ns, c.Ts = parts, anew(c.Ns), anew(c.Ts)
	return c
}

func anew(l []int64) []int64 { return append([]int64(nil), l...) }

// let makes an LLet simpler. A variable that is a number or another variable stands nowhere any more, since these stand in its place.
func (s *simplifier) let(c api.Lam) api.Lam {
	first := s.simpler(c.L[0])
	s.known.bind(c.V, first)
	second := s.simpler(c.L[1])
	stands := s.known.stands(c.V)
	s.known.leave(c.V)
	if stands || !isPlain(first) {
		return s.kept(c, first, second)
	}
	s.drop(first)
	return second
}

func (s *simplifier) sequence(c api.Lam) api.Lam {
	first := s.simpler(c.L[0])
	if !isPlain(first) {
		return s.kept(c, first)
	}
	s.drop(first)
	return s.simpler(c.L[1])
}

// choice makes an LIf or an LSwitch simpler. What isn't chosen isn't even looked at: so no variable stands there, and no LExit leads from there.
func (s *simplifier) choice(c api.Lam) api.Lam {
	first := s.simpler(c.L[0])
	if first.Kind != api.LInt {
		return s.kept(c, first)
	}
	s.spare++
	return s.simpler(chosen(c, first.N))
}

func (s *simplifier) operation(c api.Lam) api.Lam {
	c = s.kept(c)
	n, ok := result(c)
	if !ok {
		return c
	}
	s.spare++
	return api.Lam{Kind: api.LInt, N: n}
}

// catch makes an LCatch simpler. Around it, in another function, there may be one of the same number, whose LExits are counted apart.
func (s *simplifier) catch(c api.Lam) api.Lam {
	around := s.exits[c.N]
	s.exits[c.N] = 0
	first := s.simpler(c.L[0])
	leads := s.exits[c.N] > 0
	s.exits[c.N] = around
	if leads {
		return s.kept(c, first)
	}
	s.spare++
	return first
}

// drop lets a spare node's first part, that is plain, go.
func (s *simplifier) drop(first api.Lam) {
	s.spare++
	s.known.forget(first)
}

// isPlain tells whether a node does nothing, but comes to a value.
func isPlain(c api.Lam) bool {
	return c.Kind == api.LInt || c.Kind == api.LText || c.Kind == api.LVar || c.Kind == api.LFun
}
