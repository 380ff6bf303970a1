package simp

import "grapnel/api"

// mostTypes bounds how many nodes the exceptions' types have. No source has nearly so many; but types whose parts are shared may have more than there is room for anew.
const mostTypes = 1 << 20

// copiedExns tells exceptions anew; false: their types are too great.
func copiedExns(l []api.Con) ([]api.Con, bool) {
	left := mostTypes
	var all []api.Con
	for _, x := range l {
		of, ok := copiedTypes(x.Of, &left)
		if !ok {
			return nil, false
		}
		all = append(all, api.Con{Name: x.Name, N: x.N, Of: of})
	}
	return all, true
}

func copiedTypes(l []api.Type, left *int) ([]api.Type, bool) {
	*left -= len(l)
	if *left < 0 {
		return nil, false
	}
	var all []api.Type
	for _, t := range l {
		parts, ok := copiedTypes(t.L, left)
		if !ok {
			return nil, false
		}
		all = append(all, api.Type{V: t.V, S: t.S, L: parts})
	}
	return all, true
}
