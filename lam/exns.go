package lam

import "grapnel/api"

// exnsMay tells whether exceptions are as chapter 9 has them.
func exnsMay(l []api.Con) bool {
	known := builtIn()
	if len(l) < len(known) || len(l) > api.TagLast+1 {
		return false
	}
	for i, x := range known {
		if !isBuiltIn(l[i], x) {
			return false
		}
	}
	return areOfOne(l) && areNumbered(l) && haveNames(l)
}

// builtIn tells the exceptions that come first.
func builtIn() []api.Con {
	return []api.Con{
		{Name: "Match_failure"}, {Name: "Division_by_zero"}, {Name: "Invalid_argument"},
		{Name: "End_of_file"}, {Name: "Not_found"},
		{Name: "Failure", Of: []api.Type{{S: "string"}}},
	}
}

// isBuiltIn tells whether an exception has the name of a built-in one and is of the same. (Its number is asked for with the others'.)
func isBuiltIn(x, known api.Con) bool {
	if x.Name != known.Name || len(x.Of) != len(known.Of) {
		return false
	}
	for i, t := range x.Of {
		if t.V != 0 || t.S != known.Of[i].S || len(t.L) > 0 {
			return false
		}
	}
	return true
}

// areOfOne tells whether each is without anything, or of one type: a source can't say another one.
func areOfOne(l []api.Con) bool {
	for _, x := range l {
		if len(x.Of) > 1 {
			return false
		}
	}
	return true
}

// areNumbered tells whether the exceptions without, and those with something, are numbered in order.
func areNumbered(l []api.Con) bool {
	without, with := 0, 0
	for _, x := range l {
		count := &without
		if len(x.Of) > 0 {
			count = &with
		}
		if x.N != *count {
			return false
		}
		*count++
	}
	return true
}

// haveNames tells whether each has a name, and one of its own.
func haveNames(l []api.Con) bool {
	seen := map[string]int{"": 0}
	for i, x := range l {
		if _, ok := seen[x.Name]; ok {
			return false
		}
		seen[x.Name] = i
	}
	return true
}
