package simp_test

import (
	"slices"

	"grapnel/api"
)

// cleanPlainly tells whether no node is spare, as one reads the chapter: each is asked by itself.
func cleanPlainly(c *api.Lam) bool { return !slices.ContainsFunc(listed(c), sparePlainly) }

func sparePlainly(c *api.Lam) bool {
	switch c.Kind {
	case api.LLet:
		return c.L[0].Kind == api.LInt || c.L[0].Kind == api.LVar || plainPlainly(c.L[0]) && !standsPlainly(c.V, &c.L[1])
	case api.LSeq:
		return plainPlainly(c.L[0])
	case api.LIf, api.LSwitch:
		return c.L[0].Kind == api.LInt
	case api.LOp:
		for _, p := range c.L {
			if p.Kind != api.LInt {
				return false
			}
		}
		byZero := (c.N == api.OpDiv || c.N == api.OpRem) && c.L[1].N == 0
		return (api.OpAdd <= c.N && c.N <= api.OpLess || c.N == api.OpNeg || c.N == api.OpNot) && !byZero
	case api.LCatch:
		return !leadsPlainly(c.N, &c.L[0])
	}
	return false
}

func plainPlainly(c api.Lam) bool {
	return slices.Contains([]int{api.LInt, api.LText, api.LVar, api.LFun}, c.Kind)
}

// standsPlainly tells whether a variable stands in a node. (Within where it is bound none has its number.)
func standsPlainly(v int, c *api.Lam) bool {
	return slices.ContainsFunc(listed(c), func(x *api.Lam) bool { return x.Kind == api.LVar && x.V == v })
}

// leadsPlainly tells whether an LExit leads from a node to an LCatch around it. (Within the same function none there has its number.)
func leadsPlainly(n int64, c *api.Lam) bool {
	if c.Kind == api.LFun {
		return false
	}
	for i := range c.L {
		if leadsPlainly(n, &c.L[i]) {
			return true
		}
	}
	return c.Kind == api.LExit && c.N == n
}
