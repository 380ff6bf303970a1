package lower

import (
	"slices"

	"grapnel/api"
)

// row is what is still asked of some places, side by side, and what follows where all of it is met.
type row struct {
	left    []api.Core // a pattern for each place
	bound   []bound
	guarded bool
	met     func(all []bound, behind *outlet) api.Lam
}

// bound is a core's variable, and which variable it is.
type bound struct{ core, v int }

// rows makes what asks rows in their order. Where a row is met, those behind it aren't asked.
func (l *lowering) rows(places []int, rows []row, behind *outlet) api.Lam {
	if len(rows) == 0 {
		return behind.exit()
	}
	rows = named(places, rows)
	i := firstAsked(rows[0].left)
	if i == len(places) {
		return rows[0].met(rows[0].bound, behind)
	}
	places = ahead(places, i)
	for k := range rows {
		rows[k].left = ahead(rows[k].left, i)
	}
	for k, r := range rows {
		if sortOf(r.left[0]) == ways && firstAsked(r.left[1:]) == len(r.left)-1 {
			return l.spread(places, rows, k, behind)
		}
	}
	many := alike(rows)
	if many == len(rows) {
		return l.group(places, rows, behind)
	}
	return l.catch(func(next *outlet) api.Lam {
		return l.group(places, rows[:many], next)
	}, nil, func() api.Lam {
		return l.rows(places, rows[many:], behind)
	})
}

// named tells rows whose patterns have no names outside any more: those are bound to the places.
func named(places []int, rows []row) []row {
	var all []row
	for _, r := range rows {
		r.left = slices.Clone(r.left)
		for i, q := range r.left {
			for q.Kind == api.QAs || q.Kind == api.QVar {
				r.bound = append(r.bound, bound{q.V, places[i]})
				q = field(q, 0)
			}
			r.left[i] = q
		}
		all = append(all, r)
	}
	return all
}

// firstAsked tells the first of some patterns that isn't met whatever there is; how many there are, if none is such.
func firstAsked(patterns []api.Core) int {
	for i, q := range patterns {
		if q.Kind != api.QAny {
			return i
		}
	}
	return len(patterns)
}

// ahead tells a list with one element ahead of the others.
func ahead[T any](l []T, i int) []T {
	return slices.Concat(l[i:i+1], l[:i], l[i+1:])
}

// alike tells how many rows, from the first one on, are asked together by their first patterns.
func alike(rows []row) int {
	first := sortOf(rows[0].left[0])
	many := 1
	for many < len(rows) && first != ways && first != unknown {
		s := sortOf(rows[many].left[0])
		if s != first && (first != whole || s != anything) {
			break
		}
		many++
	}
	return many
}

// group makes what asks the first patterns of rows of one sort.
func (l *lowering) group(places []int, rows []row, behind *outlet) api.Lam {
	switch sortOf(rows[0].left[0]) {
	case whole:
		return l.opened(places, rows, behind)
	case one:
		return l.chosen(places, rows, behind)
	case written:
		return l.compared(places, rows, behind)
	case ways:
		return l.first(places, rows[0], behind)
	}
	return api.Lam{}
}

// first asks a row's first pattern alone, and its others where that is met.
func (l *lowering) first(places []int, r row, behind *outlet) api.Lam {
	alone := r
	alone.left = r.left[:1]
	alone.met = func(all []bound, behind *outlet) api.Lam {
		r.left, r.bound = r.left[1:], all
		return l.rows(places[1:], []row{r}, behind)
	}
	return l.rows(places[:1], []row{alone}, behind)
}

// rest tells rows of which the first pattern isn't asked any more.
func rest(rows []row) []row {
	var all []row
	for _, r := range rows {
		r.left = r.left[1:]
		all = append(all, r)
	}
	return all
}
