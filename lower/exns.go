package lower

import "grapnel/api"

// copiedCons tells constructors anew; none, if they are of more types than a source has parts.
func copiedCons(l []api.Con) []api.Con {
	left := api.MaxParts
	var all []api.Con
	for _, c := range l {
		left -= nodes(left+1, typeParts, c.Of...)
		if left < 0 {
			return nil
		}
		all = append(all, api.Con{Name: c.Name, N: c.N, Of: copiedTypes(c.Of)})
	}
	return all
}

func copiedTypes(l []api.Type) []api.Type {
	var all []api.Type
	for _, t := range l {
		all = append(all, api.Type{V: t.V, S: t.S, L: copiedTypes(t.L)})
	}
	return all
}
