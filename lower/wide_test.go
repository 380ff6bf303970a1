package lower_test

import (
	"math/rand"
	"testing"

	"grapnel/api"
	"grapnel/lam"
	"grapnel/lower"
)

// wideMaker makes up choices of many cases, each of as many columns, whose patterns are much alike.
type wideMaker struct{ *rand.Rand }

func (m wideMaker) pattern(depth int) api.Core {
	switch x := m.Intn(10); {
	case x < 2 || depth == 0:
		return anyone()
	case x < 4:
		return qcon("Z", 0)
	case x < 7:
		return succ(1, m.pattern(depth-1))
	case x < 8:
		return qcon("T", 1, k(api.QTuple, 0, m.pattern(depth-1), m.pattern(depth-1)))
	}
	return either(m.pattern(depth-1), m.pattern(depth-1))
}

func (m wideMaker) value(depth int) api.Core {
	switch x := m.Intn(5); {
	case x < 1 || depth == 0:
		return con("Z", 0)
	case x < 4:
		return succ(1, m.value(depth-1))
	}
	return con("T", 1, k(api.KTuple, 0, m.value(depth-1), m.value(depth-1)))
}

// row tells as many parts side by side.
func (m wideMaker) row(kind, columns int, part func() api.Core) api.Core {
	if columns == 1 {
		return part()
	}
	var parts []api.Core
	for range columns {
		parts = append(parts, part())
	}
	return k(kind, 0, parts...)
}

// cases tells cases with up to 150 nodes of patterns; each comes to its number.
func (m wideMaker) cases(columns int) []api.Core {
	var all []api.Core
	for left := int64(150); len(all) < 60; {
		q := m.row(api.QTuple, columns, func() api.Core { return m.pattern(1 + m.Intn(7)) })
		if left -= counted(q); left < 0 {
			break
		}
		parts := []api.Core{q, num(int64(len(all)))}
		if m.Intn(6) == 0 {
			parts = []api.Core{q, truth(m.Intn(3) == 0), parts[1]}
		}
		all = append(all, when(parts...))
	}
	return append(all, when(anyone(), num(98)))[:max(1, len(all))]
}

// program tells a core that says which case is met, of some values.
func (m wideMaker) program() api.Core {
	columns := 1 + m.Intn(5)
	c := unit()
	for range 8 {
		c = seq(say(k(api.KApp, 0, at(0), m.row(api.KTuple, columns, func() api.Core { return m.value(4) }))), c)
	}
	choice := k(api.KTry, 0, match(at(0), m.cases(columns)...), when(anyone(), num(99)))
	return let(0, fun(0, 1, choice), c)
}

// P14.3: of random choices of many cases and columns.
func TestWideChoices(t *testing.T) {
	t.Parallel()
	d := declared()
	seen := 0
	for seed := range 3000 {
		c := wideMaker{rand.New(rand.NewSource(int64(seed)))}.program()
		if counted(c) > 1000 || !isTyped(d, c) {
			continue
		}
		seen++
		p, e := lower.Of(d, c)
		b := both{d, c, p, nil, 20000}
		if w := b.differs(5); e != api.OK || w != "" || b.lam(20000).Kind != lam.Ended {
			t.Fatalf("seed %d: %d: %s: %s", seed, e, w, shown(c))
		}
	}
	if seen < 2500 {
		t.Errorf("only %d", seen)
	}
}
