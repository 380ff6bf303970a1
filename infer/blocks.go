package infer

import "grapnel/api"

// field is what a label names: its type, and its record's.
type field struct {
	t, sort api.Type
}

// declared is what Decls tells, by names: no two constructors have the same, and no two labels.
type declared struct {
	cons   map[string]signature
	fields map[string]field
	sorts  map[string]signature // of records
}

func declaredBy(d api.Decls) declared {
	all := declared{cons: map[string]signature{}, fields: map[string]field{}, sorts: map[string]signature{}}
	for _, s := range d.Sorts {
		all.addCons(s.Cons, api.Type{S: s.Name})
		all.addLabels(s.Labels, api.Type{S: s.Name})
	}
	all.addCons(d.Exns, exn())
	return all
}

func (all declared) addCons(cons []api.Con, sort api.Type) {
	for _, c := range cons {
		all.cons[c.Name] = telling(sort, c.Of...)
	}
}

func (all declared) addLabels(labels []api.Label, sort api.Type) {
	record := telling(sort)
	for _, l := range labels {
		all.fields[l.Name] = field{t: l.T, sort: sort}
		record.wanted = append(record.wanted, l.T)
	}
	all.sorts[sort.S] = record
}

// con tells the type of a constructor of its parts.
func (f *finder) con(c *api.Core) api.Type {
	switch c.S {
	case "()":
		return unit()
	case "true", "false":
		return truth()
	case "[]":
		return list(f.fresh())
	case "::":
		return f.longer(c)
	}
	s, ok := f.decls.cons[c.S]
	return f.whole(c, s, ok)
}

// longer tells the type of an element and a list.
func (f *finder) longer(c *api.Core) api.Type {
	t := list(f.of(part(c, 0)))
	f.is(part(c, 1), t)
	return t
}

// record tells the type of a record of its parts, which stand in the order of its labels.
func (f *finder) record(c *api.Core) api.Type {
	s, ok := f.decls.sorts[c.S]
	return f.whole(c, s, ok)
}

// whole tells the type of a node that has a signature, if it has, and just the parts that are wanted.
func (f *finder) whole(c *api.Core, s signature, ok bool) api.Type {
	if !ok || len(s.wanted) != len(c.L) {
		return f.wrong(api.ErrForm, c.At)
	}
	return f.takes(c, s)
}

// label tells what a node's label names.
func (f *finder) label(c *api.Core) field {
	l, ok := f.decls.fields[c.S]
	if !ok {
		f.wrong(api.ErrForm, c.At)
	}
	return l
}

func (f *finder) tuple(c *api.Core) api.Type {
	t := api.Type{S: "*"}
	for i := range c.L {
		t.L = append(t.L, f.of(&c.L[i]))
	}
	return t
}

func (f *finder) array(c *api.Core) api.Type {
	a := f.fresh()
	for i := range c.L {
		f.is(&c.L[i], a)
	}
	return array(a)
}
