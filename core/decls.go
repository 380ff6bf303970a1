package core

import "grapnel/api"

// declare goes through all items for the names that they declare.
func (r *resolver) declare() {
	for i, n := range r.items {
		switch n.Kind {
		case api.IVariant:
			r.declareVariant(i, n)
		case api.IRecord:
			r.declareRecord(i, n)
		case api.IExn:
			r.declareExn(i, n)
		case api.ILet:
		default:
			r.wrong(api.ErrForm, n.At)
		}
	}
}

func (r *resolver) declareVariant(i int, n api.Node) {
	r.declareType(i, n)
	if len(n.L) > api.TagLast+1 {
		r.wrong(api.ErrMany, n.At)
	}
	var counts [2]int
	for _, x := range n.L {
		r.declareCon(i, x, &counts)
	}
}

func (r *resolver) declareRecord(i int, n api.Node) {
	r.declareType(i, n)
	for k, x := range n.L {
		if _, ok := r.labels[x.S]; ok {
			r.wrong(api.ErrTwice, x.At)
		}
		r.labels[x.S] = label{item: i, n: k}
	}
}

func (r *resolver) declareExn(i int, n api.Node) {
	if r.counts[0]+r.counts[1] > api.TagLast {
		r.wrong(api.ErrMany, n.At)
	}
	r.declareCon(i, n, &r.counts)
}

func (r *resolver) declareType(i int, n api.Node) {
	if _, ok := r.types[n.S]; ok {
		r.wrong(api.ErrTwice, n.At)
	}
	r.types[n.S] = i
}

func (r *resolver) declareCon(i int, n api.Node, counts *[2]int) {
	if _, ok := r.cons[n.S]; ok {
		r.wrong(api.ErrTwice, n.At)
	}
	r.cons[n.S] = number(i, len(n.L) > 0, counts)
}

// decls goes through all items for the types in them, and tells what they declare.
func (r *resolver) decls() api.Decls {
	d := api.Decls{Exns: builtInExns()}
	for i, n := range r.items {
		r.item = i
		switch n.Kind {
		case api.IVariant:
			d.Sorts = append(d.Sorts, r.variantSort(n))
		case api.IRecord:
			d.Sorts = append(d.Sorts, r.recordSort(n))
		case api.IExn:
			d.Exns = append(d.Exns, r.declared(n))
		}
	}
	return d
}

func (r *resolver) variantSort(n api.Node) api.Sort {
	s := api.Sort{Name: n.S}
	for _, x := range n.L {
		s.Cons = append(s.Cons, r.declared(x))
	}
	return s
}

func (r *resolver) recordSort(n api.Node) api.Sort {
	s := api.Sort{Name: n.S}
	for _, x := range n.L {
		s.Labels = append(s.Labels, api.Label{Name: x.S, T: r.typed(part(x, 0)), Mutable: x.N == 1})
	}
	return s
}

// declared tells the constructor, or exception, that an ICon, or IExn, declares.
func (r *resolver) declared(n api.Node) api.Con {
	return api.Con{Name: n.S, N: r.cons[n.S].n, Of: r.allTyped(n.L)}
}

func (r *resolver) allTyped(l []api.Node) []api.Type {
	var all []api.Type
	for _, n := range l {
		all = append(all, r.typed(n))
	}
	return all
}

// typed tells the type that a node writes.
func (r *resolver) typed(n api.Node) api.Type {
	switch n.Kind {
	case api.TName:
		if item, ok := r.types[n.S]; !ok || item > r.item || takesOne(n.S) {
			r.wrong(api.ErrName, n.At)
		}
		return api.Type{S: n.S}
	case api.TApp:
		if !takesOne(n.S) {
			r.wrong(api.ErrName, n.At)
		}
		return api.Type{S: n.S, L: r.allTyped(n.L)}
	case api.TArrow:
		return api.Type{S: "->", L: r.allTyped(n.L)}
	case api.TTuple:
		return api.Type{S: "*", L: r.allTyped(n.L)}
	}
	r.wrong(api.ErrForm, n.At)
	return api.Type{}
}

// takesOne tells whether a type's name stands only behind another type.
func takesOne(s string) bool { return s == "list" || s == "ref" || s == "array" }
