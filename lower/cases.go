package lower

import "grapnel/api"

// matchFailure is the number of the exception Match_failure.
const matchFailure = 0

// match makes a choice by a value. A tuple that nobody sees but its patterns isn't laid: its parts stand in places of their own.
func (l *lowering) match(c api.Core) api.Lam {
	values, rows := []api.Core{part(c, 0)}, l.rowsOf(casesOf(c))
	if values[0].Kind == api.KTuple && areTuples(casesOf(c)) {
		values = values[0].L
		rows = inParts(rows, upTo(len(values)))
	}
	var places []int
	var made []api.Lam
	for _, x := range values {
		v, value := l.place(x)
		places, made = append(places, v), append(made, value)
	}
	body := l.cases(places, rows, of(api.LRaise, 0, number(matchFailure)))
	for i, x := range values { // the last one is outermost: it is worked out first
		if x.Kind != api.KVar {
			body = let(places[i], made[i], body)
		}
	}
	return body
}

// place tells in which variable a value is to stand, and what makes it. What stands in a variable needs no other one.
func (l *lowering) place(x api.Core) (int, api.Lam) {
	if x.Kind == api.KVar {
		return l.known(x.V), api.Lam{}
	}
	return l.fresh(1), l.expr(x)
}

// areTuples tells whether no case names, or has two ways of, the tuple that it is asked of.
func areTuples(cases []api.Core) bool {
	for _, k := range cases {
		if q := part(k, 0); q.Kind != api.QTuple && q.Kind != api.QAny {
			return false
		}
	}
	return true
}

// try makes a choice by what is raised, which is raised further, where no case is met.
func (l *lowering) try(c api.Core) api.Lam {
	body := l.expr(part(c, 0))
	v := l.fresh(1)
	cases := l.cases([]int{v}, l.rowsOf(casesOf(c)), of(api.LRaise, 0, variable(v)))
	return api.Lam{Kind: api.LTry, V: v, L: []api.Lam{body, cases}}
}

// rowsOf tells a row for each case.
func (l *lowering) rowsOf(cases []api.Core) []row {
	var rows []row
	for _, k := range cases {
		rows = append(rows, row{left: []api.Core{part(k, 0)}, guarded: len(k.L) > 2, met: l.body(k)})
	}
	return rows
}

// body tells what makes a case's body, and its guard ahead of it, if it has one.
func (l *lowering) body(k api.Core) func([]bound, *outlet) api.Lam {
	return func(all []bound, behind *outlet) api.Lam {
		for _, b := range all {
			l.vars[b.core] = b.v
		}
		if len(k.L) < 3 {
			return l.expr(part(k, 1))
		}
		return of(api.LIf, 0, l.expr(k.L[1]), l.expr(k.L[2]), behind.exit())
	}
}

// cases makes what asks the rows in their order, none: what follows where no one is met. What a guard sees may be changed by it: so behind each one all begins anew, at the places.
func (l *lowering) cases(places []int, rows []row, none api.Lam) api.Lam {
	if len(rows) == 0 {
		return none
	}
	many := 1
	for many < len(rows) && !rows[many-1].guarded {
		many++
	}
	return l.catch(func(behind *outlet) api.Lam {
		return l.rows(places, rows[:many], behind)
	}, nil, func() api.Lam {
		return l.cases(places, rows[many:], none)
	})
}
