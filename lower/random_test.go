package lower_test

import (
	"math/rand"
	"testing"

	"grapnel/api"
	"grapnel/infer"
	"grapnel/lower"
	"grapnel/model"
)

func newMaker(seed int64, wild, more int) *maker {
	return &maker{r: rand.New(rand.NewSource(seed)), wild: wild, more: more}
}

func linesOf(seed int) []string { return []string{"1", "abc", "", "-7"}[:seed%5] }

// isTyped tells whether a core has a type.
func isTyped(d api.Decls, c api.Core) bool {
	_, e, _ := infer.Infer(d, c)
	return e == api.OK
}

// P14.1, P14.2: of random programs that have a type.
func TestRandomPrograms(t *testing.T) {
	t.Parallel()
	seen := map[int]int{}
	for seed := range 2500 {
		s := newMaker(int64(seed), 0, 30+seed%80).program()
		d, c, ok := resolved(s)
		if !ok || !isTyped(d, c) || counted(c) > 1000 {
			seen[-1]++
			continue
		}
		p, e := lower.Of(d, c)
		b := both{d, c, p, linesOf(seed), 5000}
		w := b.differs(int64(10 + 290*(seed%20/19)))
		if e != api.OK || w != "" {
			t.Fatalf("seed %d: %s: %d: %s", seed, s, e, w)
		}
		seen[b.lam(enough).Kind]++
	}
	if seen[model.Ended] < 1000 || seen[model.Uncaught] < 100 || seen[-1] > 800 {
		t.Errorf("only %v", seen)
	}
}

// P14.3: of random choices by patterns, of values that are much alike.
func TestRandomChoices(t *testing.T) {
	t.Parallel()
	seen := map[int]int{}
	for seed := range 5000 {
		m := &chooser{maker: *newMaker(int64(seed), 0, 0)}
		s := m.program()
		d, c, ok := resolved(s)
		if !ok || !isTyped(d, c) || counted(c) > 1000 {
			seen[-1]++
			continue
		}
		p, e := lower.Of(d, c)
		b := both{d, c, p, nil, 20000}
		w := b.differs(int64(10 + 290*(seed%20/19)))
		if e != api.OK || w != "" {
			t.Fatalf("seed %d: %s: %d: %s", seed, s, e, w)
		}
		seen[b.lam(enough).Kind]++
	}
	if seen[model.Ended] < 3000 || seen[-1] > 2000 {
		t.Errorf("only %v", seen)
	}
}
