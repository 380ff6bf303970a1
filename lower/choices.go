package lower

import (
	"cmp"
	"slices"

	"grapnel/api"
)

// count is how many constructors of a type are without, and how many with something.
type count struct{ without, with int }

// countsOf tells the counts of each constructor's type. Those of the exceptions aren't told: others may be raised.
func countsOf(d api.Decls) map[string]count {
	all := map[string]count{"()": {1, 0}, "false": {2, 0}, "true": {2, 0}, "[]": {1, 1}, "::": {1, 1}}
	for _, s := range d.Sorts {
		var many count
		for _, c := range s.Cons {
			if len(c.Of) == 0 {
				many.without++
			} else {
				many.with++
			}
		}
		for _, c := range s.Cons {
			all[c.Name] = many
		}
	}
	return all
}

// unlike tells what there is in a list, each once, the least first.
func unlike[T cmp.Ordered](l []T) []T {
	return slices.Compact(slices.Sorted(slices.Values(l)))
}

// only tells the rows whose first pattern has that key.
func only[K comparable](rows []row, key func(api.Core) K, k K) []row {
	var all []row
	for _, r := range rows {
		if key(r.left[0]) == k {
			all = append(all, r)
		}
	}
	return all
}

func numberOf(q api.Core) int64 { return q.N }

func textOf(q api.Core) string { return q.S }

// chosen makes a switch on the numbers and the tags of the rows' first patterns.
func (l *lowering) chosen(places []int, rows []row, behind *outlet) api.Lam {
	var without, with []row
	var numbers, tags []int64
	for _, r := range rows {
		if q := r.left[0]; len(q.L) == 0 {
			without, numbers = append(without, r), append(numbers, q.N)
		} else {
			with, tags = append(with, r), append(tags, q.N)
		}
	}
	numbers, tags = unlike(numbers), unlike(tags)
	parts := []api.Lam{variable(places[0])}
	for _, n := range numbers {
		parts = append(parts, l.rows(places[1:], rest(only(without, numberOf, n)), behind))
	}
	for _, n := range tags {
		parts = append(parts, l.opened(places, only(with, numberOf, n), behind))
	}
	many, ok := l.counts[rows[0].left[0].S]
	if !ok || len(numbers) < many.without || len(tags) < many.with {
		return api.Lam{Kind: api.LSwitch, Ns: numbers, Ts: tags, L: append(parts, behind.exit())}
	}
	return switched(numbers, tags, parts)
}

// switched makes a switch of parts, one of which is always chosen: so the last one needn't be asked for.
func switched(numbers, tags []int64, parts []api.Lam) api.Lam {
	if len(tags) > 0 {
		tags = tags[:len(tags)-1]
	} else {
		numbers = numbers[:len(numbers)-1]
	}
	if len(numbers)+len(tags) == 0 {
		return parts[1]
	}
	return api.Lam{Kind: api.LSwitch, Ns: numbers, Ts: tags, L: parts}
}

// compared holds a place against the texts of the rows' first patterns.
func (l *lowering) compared(places []int, rows []row, behind *outlet) api.Lam {
	var texts []string
	for _, r := range rows {
		texts = append(texts, r.left[0].S)
	}
	texts = unlike(texts)
	none := behind.exit()
	for _, s := range slices.Backward(texts) {
		is := of(api.LOp, api.OpEq, variable(places[0]), text(s))
		none = of(api.LIf, 0, is, l.rows(places[1:], rest(only(rows, textOf, s)), behind), none)
	}
	return none
}
