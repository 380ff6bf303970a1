package model

import "grapnel/api"

// meets tells whether a pattern is met by a value, and what is bound then.
func meets(q *api.Core, v value, bound *variable) (*variable, bool) {
	switch q.Kind {
	case api.QAny:
		return bound, true
	case api.QVar:
		return bound.bind(q.V, v), true
	case api.QAs:
		return meets(partOf(q, 0), v, bound.bind(q.V, v))
	case api.QInt:
		return bound, v == number(q.N)
	case api.QText:
		return bound, v == text(q.S)
	case api.QOr:
		if inner, ok := meets(partOf(q, 0), v, bound); ok {
			return inner, true
		}
		return meets(partOf(q, 1), v, bound)
	case api.QCon, api.QTuple, api.QRecord:
		return meetsParts(q, v, bound)
	}
	return bound, false
}

// meetsParts is asked of a pattern that has others in it, or of a constructor without anything.
func meetsParts(q *api.Core, v value, bound *variable) (*variable, bool) {
	if q.Kind == api.QCon && len(q.L) == 0 {
		return bound, v == number(q.N)
	}
	b, ok := v.(*block)
	if !ok || b.tag != q.N || len(b.fields) != len(q.L) {
		return bound, false
	}
	for i := range q.L {
		if bound, ok = meets(&q.L[i], b.fields[i], bound); !ok {
			return bound, false
		}
	}
	return bound, true
}
