package core

import "grapnel/api"

// Parse tells no tree whose nodes lack a part. These three answer an empty node for one that is lacking, so that any other tree is gone through as well.

// part tells a node's part i.
func part(n api.Node, i int) api.Node {
	if i < len(n.L) {
		return n.L[i]
	}
	return api.Node{}
}

// first tells the first node of a list, and those behind it.
func first(l []api.Node) (api.Node, []api.Node) {
	if len(l) == 0 {
		return api.Node{}, nil
	}
	return l[0], l[1:]
}

// last tells those ahead of the last node of a list, and that one.
func last(l []api.Node) ([]api.Node, api.Node) {
	if len(l) == 0 {
		return nil, api.Node{}
	}
	return l[:len(l)-1], l[len(l)-1]
}

// operands tells what a constructor is applied to: `::` has both parts of its tuple, the others the one part that they have.
func operands(n api.Node) []api.Node {
	if n.S == "::" {
		return part(n, 0).L
	}
	return n.L
}

// unit is `()` as an expression or a pattern.
func unit(kind, at int) api.Core { return api.Core{Kind: kind, At: at, S: "()"} }

// truth is `true` or `false` as an expression or a pattern.
func truth(kind, at int, is bool) api.Core {
	if is {
		return api.Core{Kind: kind, At: at, N: 1, S: "true"}
	}
	return api.Core{Kind: kind, At: at, S: "false"}
}

// list is a list of parts as an expression or a pattern.
func list(kind, at int, parts []api.Core) api.Core {
	c := api.Core{Kind: kind, At: at, S: "[]"}
	for i := len(parts) - 1; i >= 0; i-- {
		c = api.Core{Kind: kind, At: at, S: "::", L: []api.Core{parts[i], c}}
	}
	return c
}

// matched is a KMatch of one case.
func matched(at int, value, pattern, body api.Core) api.Core {
	only := api.Core{Kind: api.KCase, At: at, L: []api.Core{pattern, body}}
	return api.Core{Kind: api.KMatch, At: at, L: []api.Core{value, only}}
}
