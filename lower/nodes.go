package lower

import "grapnel/api"

// of tells a node that has nothing but a number and parts.
func of(kind int, n int64, parts ...api.Lam) api.Lam {
	return api.Lam{Kind: kind, N: n, L: parts}
}

func number(n int64) api.Lam { return of(api.LInt, n) }

func text(s string) api.Lam { return api.Lam{Kind: api.LText, S: s} }

func variable(v int) api.Lam { return api.Lam{Kind: api.LVar, V: v} }

func let(v int, value, body api.Lam) api.Lam {
	return api.Lam{Kind: api.LLet, V: v, L: []api.Lam{value, body}}
}

// part tells a core's part, or none.
func part(c api.Core, i int) api.Core {
	if i < len(c.L) {
		return c.L[i]
	}
	return api.Core{}
}

// casesOf tells the cases of a KMatch or a KTry.
func casesOf(c api.Core) []api.Core {
	if len(c.L) == 0 {
		return nil
	}
	return c.L[1:]
}
