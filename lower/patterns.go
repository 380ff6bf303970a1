package lower

import (
	"slices"

	"grapnel/api"
)

// The sorts of patterns: rows of one sort are asked together.
const (
	anything = iota // is met whatever there is
	whole           // what is always there, in parts
	one             // of numbers and constructors
	written         // a text
	ways
	unknown
)

func sortOf(q api.Core) int {
	switch q.Kind {
	case api.QAny:
		return anything
	case api.QTuple, api.QRecord:
		return whole
	case api.QInt, api.QCon:
		return one
	case api.QText:
		return written
	case api.QOr:
		return ways
	}
	return unknown
}

// field tells the pattern that a pattern has for a field: one that is always met, where it has none.
func field(q api.Core, i int) api.Core {
	if i < len(q.L) {
		return q.L[i]
	}
	return api.Core{Kind: api.QAny}
}

// namesOf tells the variables that a pattern binds.
func namesOf(q api.Core) []int {
	var all []int
	if q.Kind == api.QVar || q.Kind == api.QAs {
		all = append(all, q.V)
	}
	parts := q.L
	if q.Kind == api.QOr {
		parts = parts[:min(len(parts), 1)] // its ways bind the same ones
	}
	for _, p := range parts {
		all = append(all, namesOf(p)...)
	}
	return all
}

// waysOf tells the ways of a QOr; those of a way that is a QOr itself in its place.
func waysOf(q api.Core) []api.Core {
	if q.Kind != api.QOr {
		return []api.Core{q}
	}
	var all []api.Core
	for _, p := range q.L {
		all = append(all, waysOf(p)...)
	}
	return all
}

// opened reads from a block what some row looks at, and asks for that.
func (l *lowering) opened(places []int, rows []row, behind *outlet) api.Lam {
	var read, inner []int
	for i := range widest(rows) {
		if isLookedAt(rows, i) {
			read, inner = append(read, i), append(inner, l.fresh(1))
		}
	}
	body := l.rows(slices.Concat(inner, places[1:]), inParts(rows, read), behind)
	for k, i := range slices.Backward(read) {
		body = let(inner[k], of(api.LField, int64(i), variable(places[0])), body)
	}
	return body
}

// inParts tells rows that ask for fields of the first place, not for itself.
func inParts(rows []row, fields []int) []row {
	var all []row
	for _, r := range rows {
		var left []api.Core
		for _, i := range fields {
			left = append(left, field(r.left[0], i))
		}
		r.left = append(left, r.left[1:]...)
		all = append(all, r)
	}
	return all
}

// upTo tells the numbers below another one.
func upTo(many int) []int {
	var all []int
	for i := range many {
		all = append(all, i)
	}
	return all
}

func widest(rows []row) int {
	many := 0
	for _, r := range rows {
		many = max(many, len(r.left[0].L))
	}
	return many
}

func isLookedAt(rows []row, i int) bool {
	for _, r := range rows {
		if field(r.left[0], i).Kind != api.QAny {
			return true
		}
	}
	return false
}
