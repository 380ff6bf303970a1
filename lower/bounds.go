package lower

import "grapnel/api"

const (
	mostNodes    = 1000 // of a core
	mostParams   = 30   // of a function; functions of a recursion
	mostPatterns = 150  // nodes of the patterns of one KMatch or KTry
)

func isTooGreat(c api.Core) bool {
	return nodes(mostNodes+1, coreParts, c) > mostNodes || hasTooGreat(c)
}

// nodes counts the nodes of some trees, but no more than most: so it ends soon, whatever parts they share.
func nodes[T any](most int, parts func(T) []T, all ...T) int {
	many := 0
	for _, t := range all {
		if many == most {
			break
		}
		many += 1 + nodes(most-many-1, parts, parts(t)...)
	}
	return many
}

func coreParts(c api.Core) []api.Core { return c.L }

func typeParts(t api.Type) []api.Type { return t.L }

// hasTooGreat tells whether a core has a function of too many parameters, a recursion of too many functions, or a choice by too great patterns.
func hasTooGreat(c api.Core) bool {
	switch c.Kind {
	case api.KFun, api.KRec:
		if c.N > mostParams {
			return true
		}
	case api.KMatch, api.KTry:
		if patterns(c) > mostPatterns {
			return true
		}
	}
	for _, p := range c.L {
		if hasTooGreat(p) {
			return true
		}
	}
	return false
}

// patterns counts the nodes of a choice's patterns.
func patterns(c api.Core) int {
	many := 0
	for _, k := range casesOf(c) {
		many += nodes(mostNodes, coreParts, part(k, 0))
	}
	return many
}
