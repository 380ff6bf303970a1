package lam_test

import (
	"sort"
	"testing"

	"grapnel/api"
	"grapnel/lam"
	"grapnel/model"
)

// coreOf tells the core that says what a node says: its variables have the same numbers.
func coreOf(t *testing.T, c api.Lam) api.Core {
	t.Helper()
	kinds := map[int]int{
		api.LInt: api.KInt, api.LText: api.KText, api.LVar: api.KVar, api.LFun: api.KFun, api.LApp: api.KApp, api.LLet: api.KLet, api.LRec: api.KRec, api.LField: api.KGet, api.LSet: api.KSet, api.LAt: api.KAt, api.LPut: api.KPut,
		api.LOp: api.KOp, api.LIf: api.KIf, api.LSeq: api.KSeq, api.LWhile: api.KWhile, api.LFor: api.KFor, api.LRaise: api.KRaise,
	}
	var parts []api.Core
	for _, p := range c.L {
		parts = append(parts, coreOf(t, p))
	}
	arm := func(q api.Core, body api.Core) api.Core {
		return api.Core{Kind: api.KCase, L: []api.Core{q, body}}
	}
	switch c.Kind {
	case api.LBlock:
		if c.N == 0 {
			return api.Core{Kind: api.KArray, L: parts}
		}
		return api.Core{Kind: api.KCon, N: c.N, L: parts}
	case api.LCall:
		return api.Core{Kind: api.KApp, L: append([]api.Core{{Kind: api.KBuiltin, N: c.N}}, parts...)}
	case api.LTry:
		return api.Core{Kind: api.KTry, L: []api.Core{parts[0], arm(api.Core{Kind: api.QVar, V: c.V}, parts[1])}}
	case api.LSwitch:
		k := api.Core{Kind: api.KMatch, L: parts[:1:1]}
		for i, n := range c.Ns {
			k.L = append(k.L, arm(api.Core{Kind: api.QInt, N: n}, parts[1+i]))
		}
		k.L = append(k.L, arm(api.Core{Kind: api.QAny}, parts[len(parts)-1]))
		return k
	}
	kind, ok := kinds[c.Kind]
	if !ok {
		t.Fatalf("no core has %v", c)
	}
	return api.Core{Kind: kind, N: c.N, V: c.V, S: c.S, L: parts}
}

// needs tells with how much fuel, of up to so much, a run is at its end.
func needs(most int64, atEnd func(fuel int64) bool) int64 {
	return int64(sort.Search(int(most)+1, func(fuel int) bool { return atEnd(int64(fuel)) }))
}

// P13.1: a run is what the model's is of a core that says the same. There a call of a built-in function is two nodes.
func TestAsInTheModel(t *testing.T) {
	const most = 4000
	seen := map[int]int{}
	for seed := range 4000 {
		m := newMaker(int64(seed), 0, 20+seed%90)
		m.core = true
		p, lines := m.program(), linesOf(seed)
		c := coreOf(t, p.Body)
		d := api.Decls{Exns: p.Exns}
		got := lam.Run(p, lines, most)
		seen[got.Kind]++
		if got.Kind == lam.OutOfFuel {
			continue
		}
		if want := model.Run(d, c, lines, 2*most); got != lam.Ending(want) {
			t.Fatalf("seed %d: %v: got %+v, want %+v", seed, p.Body, got, want)
		}
		x := &plain{lines: lines, fuel: most}
		x.run(p)
		fuel := needs(most, func(n int64) bool { return lam.Run(p, lines, n).Kind != lam.OutOfFuel })
		if want := needs(2*most, func(n int64) bool { return model.Run(d, c, lines, n).Kind != model.OutOfFuel }); fuel+x.calls != want {
			t.Fatalf("seed %d: %v: takes %d and %d, want %d", seed, p.Body, fuel, x.calls, want)
		}
	}
	if seen[lam.Ended] < 1000 || seen[lam.Uncaught] < 200 || seen[lam.OutOfFuel] > 1000 {
		t.Errorf("only %v", seen)
	}
}
