package types_test

import (
	"math"
	"slices"
	"strings"
	"testing"

	"grapnel/api"
	"grapnel/types"
)

// The examples

func TestExamples(t *testing.T) {
	u := types.New()
	wantUnify(t, u, "('1 -> '2)", "(int -> '1)", api.OK)
	wantResolve(t, u, "'2", "int")
	wantFresh(t, u, 3)
	wantUnify(t, types.New(), "'1", "('1 list)", api.ErrOccurs)
	wantUnify(t, types.New(), "int", "bool", api.ErrType)
	wantUnify(t, types.New(), "(int * bool)", "(int * int * int)", api.ErrType)
	c := types.Canon(named("->", v(5), named("*", v(3), v(5))))
	if !same(c, named("->", v(1), named("*", v(2), v(1)))) {
		t.Errorf("Canon: %v", c)
	}
	if s := types.Text(c); s != "('1 -> ('2 * '1))" {
		t.Errorf("Text: %s", s)
	}
}

// P10.1: New

func TestNewKnowsNothing(t *testing.T) {
	u := types.New()
	for _, s := range []string{"'1", "'7", "int", "(('2 list) -> ('1 * int * '2))"} {
		wantResolve(t, u, s, s)
	}
	other := types.New()
	wantUnify(t, other, "'1", "int", api.OK)
	wantResolve(t, types.New(), "'1", "'1")
	wantResolve(t, u, "'1", "'1")
	wantFresh(t, u, 8)
	wantFresh(t, types.New(), 1)
}

// P10.1: Fresh

func TestFreshCounts(t *testing.T) {
	u := types.New()
	for n := 1; n < 50; n++ {
		wantFresh(t, u, n)
	}
}

func TestFreshBehindEachCall(t *testing.T) {
	high := "(int * (('9 list) -> '3))"
	for what, call := range map[string]func(u *types.Table, a api.Type){
		"Unify, first":    func(u *types.Table, a api.Type) { u.Unify(a, v(2)) },
		"Unify, second":   func(u *types.Table, a api.Type) { u.Unify(v(2), a) },
		"Unify, the same": func(u *types.Table, a api.Type) { u.Unify(a, a) },
		"Unify, ErrType":  func(u *types.Table, a api.Type) { u.Unify(pair(named("x"), a), pair(named("y"), a)) },
		"ErrType, first":  func(u *types.Table, a api.Type) { u.Unify(named("list", a), named("x")) },
		"ErrType, second": func(u *types.Table, a api.Type) { u.Unify(named("x"), named("list", a)) },
		"ErrOccurs":       func(u *types.Table, a api.Type) { u.Unify(pair(v(1), a), pair(named("list", v(1)), v(4))) },
		"ErrMany, first":  func(u *types.Table, a api.Type) { u.Unify(pair(wide(600), a), v(1)) },
		"ErrMany, second": func(u *types.Table, a api.Type) { u.Unify(v(1), pair(wide(600), a)) },
		"ErrMany, other":  func(u *types.Table, a api.Type) { u.Unify(wide(600), a) },
		"Resolve":         func(u *types.Table, a api.Type) { u.Resolve(a) },
		"Size":            func(u *types.Table, a api.Type) { u.Size(a, 99) },
		"Size, few":       func(u *types.Table, a api.Type) { u.Size(pair(v(1), a), 0) },
		"Size, none":      func(u *types.Table, a api.Type) { u.Size(a, -1) },
		"Size, least":     func(u *types.Table, a api.Type) { u.Size(a, math.MinInt) },
		"Vars":            func(u *types.Table, a api.Type) { u.Vars(a) },
	} {
		for _, s := range []string{high, "'9"} {
			u := types.New()
			call(u, of(s))
			if got := u.Fresh(); !same(got, v(10)) {
				t.Errorf("%s: Fresh() = %v behind %s", what, got, s)
			}
			call(u, of("('3 list)"))
			if got := u.Fresh(); !same(got, v(11)) {
				t.Errorf("%s: Fresh() = %v once more", what, got)
			}
		}
	}
}

func TestFreshBehindWhatIsKnown(t *testing.T) {
	u := types.New()
	wantUnify(t, u, "'30", "int", api.OK)
	wantFresh(t, u, 31)
	wantUnify(t, u, "'2", "'31", api.OK)
	wantFresh(t, u, 32)
	wantResolve(t, u, "('30 -> '2)", "(int -> '31)")
	wantFresh(t, u, 33)
}

func TestFreshIsOnlyMadeOfWhatTheTableSaw(t *testing.T) {
	u := types.New()
	types.May(v(9))
	types.Canon(v(9))
	types.Text(v(9))
	types.New().Vars(v(9))
	wantFresh(t, u, 1)
}

func TestFreshAtTheEnd(t *testing.T) {
	u := types.New()
	u.Vars(v(math.MaxInt - 1))
	wantFresh(t, u, math.MaxInt)
	for range 3 {
		if a := u.Fresh(); !same(a, api.Type{}) {
			t.Errorf("Fresh() = %v, and there is no greater one", a)
		}
	}
	wantResolve(t, u, "'1", "'1")
}

// P10.1: Resolve

func TestResolveThroughSeveral(t *testing.T) {
	u := types.New()
	wantUnify(t, u, "'1", "'2", api.OK)
	wantUnify(t, u, "'2", "'3", api.OK)
	wantUnify(t, u, "'3", "('4 list)", api.OK)
	wantResolve(t, u, "'1", "('4 list)")
	wantUnify(t, u, "'4", "('5 * '6 * '5)", api.OK)
	wantUnify(t, u, "'6", "int", api.OK)
	for _, s := range []string{"'1", "'2", "'3", "('4 list)"} {
		wantResolve(t, u, s, "(('5 * int * '5) list)")
	}
	wantUnify(t, u, "'5", "('7 -> '8)", api.OK)
	wantResolve(t, u, "('1 -> ('9 * '6))", "(((('7 -> '8) * int * ('7 -> '8)) list) -> ('9 * int))")
	wantResolve(t, u, "'8", "'8")
}

func TestResolveOfLongWays(t *testing.T) {
	u := types.New()
	const n = 100000
	soon(t, func() {
		for k := 1; k < n; k++ {
			if e := u.Unify(v(k), v(k+1)); e != api.OK {
				t.Errorf("%d: %d", k, e)
			}
		}
		for range n {
			if a := u.Resolve(v(1)); a.V != n {
				t.Errorf("Resolve = %v", a)
			}
		}
	})
	wantUnify(t, u, "'50", "int", api.OK)
	wantResolve(t, u, "('1 * '100000 * '77777 * '100001)", "(int * int * int * '100001)")
}

// P10.1: Size

func TestSizeAroundTheNumberOfNodes(t *testing.T) {
	u := types.New()
	wantUnify(t, u, "'1", "('2 * ('2 list))", api.OK)
	wantUnify(t, u, "'2", "'3", api.OK)
	for s, n := range map[string]int{
		"int": 1, "'9": 1, "'3": 1, "'2": 1, "('9 list)": 2, "(int * '9 * int)": 4, "'1": 4, "('1 -> '1)": 9,
		"(('1 * '1) -> (('1 list) * '2 * int * '4))": 19,
	} {
		for _, most := range []int{0, 1, 2, n - 2, n - 1, n, n + 1, 5000, math.MaxInt - 1, math.MaxInt} {
			want := n
			if most < n {
				want = most + 1
			}
			wantSize(t, u, s, most, want)
		}
		for _, most := range []int{-1, -2, -n, math.MinInt + 1, math.MinInt} {
			wantSize(t, u, s, most, 0)
		}
	}
	wantUnify(t, u, "'3", "(int ref)", api.OK)
	wantSize(t, u, "('1 -> '1)", 99, 13)
}

// P10.1: Vars

func wantVars(t *testing.T, u *types.Table, a string, want ...int) {
	t.Helper()
	if got := u.Vars(of(a)); !slices.Equal(got, want) {
		t.Errorf("Vars(%s) = %v, want %v", a, got, want)
	}
}

func TestVars(t *testing.T) {
	u := types.New()
	wantVars(t, u, "int")
	wantVars(t, u, "(int list)")
	wantVars(t, u, "'5", 5)
	wantVars(t, u, "('5 * '3 * '5 * '4 * '3)", 5, 3, 4)
	wantVars(t, u, "((('9 list) -> '2) * ('1 -> '9))", 9, 2, 1)
	wantUnify(t, u, "'3", "('8 -> ('4 * '8))", api.OK)
	wantVars(t, u, "('5 * '3 * '5 * '4 * '3 * '7)", 5, 8, 4, 7)
	wantVars(t, u, "('3 * '5)", 8, 4, 5)
	wantUnify(t, u, "'8", "'5", api.OK)
	wantVars(t, u, "('4 * '3)", 4, 5)
	wantVars(t, u, "('8 * '5)", 5)
	wantUnify(t, u, "'5", "int", api.OK)
	wantVars(t, u, "('8 * '3)", 4)
	wantVars(t, u, "('8 * '5)")
	wantVars(t, u, "('4 * '3)", 4)
}

// P10.3: May

func TestMay(t *testing.T) {
	for _, a := range []api.Type{
		v(1), v(math.MaxInt), named("int"), named("a", v(1)), named(" "), named("'1"), named("->"),
		{V: 3, L: []api.Type{}}, {S: "x", L: []api.Type{}}, wide(5000), named("x", v(1), named("y", v(1), v(2))),
	} {
		if !types.May(a) {
			t.Errorf("%.50v may be", a)
		}
	}
	for _, bad := range []api.Type{
		{}, v(-1), v(math.MinInt), {L: []api.Type{v(1)}}, {L: []api.Type{named("a")}},
		{V: 1, S: "a"}, {V: 1, L: []api.Type{v(2)}}, {V: 1, S: "a", L: []api.Type{v(2)}},
		{V: -1, S: "a"}, {V: -1, L: []api.Type{v(2)}}, {V: -1, S: "a", L: []api.Type{v(2)}},
	} {
		for _, a := range []api.Type{
			bad, named("x", bad), named("x", v(1), bad), named("x", bad, v(1)), named("x", v(1), bad, v(2)),
			named("x", named("y", v(1), named("z", bad)), v(1)),
		} {
			if types.May(a) {
				t.Errorf("%v may not be", a)
			}
		}
	}
}

// P10.3: Canon

func TestCanon(t *testing.T) {
	for a, want := range map[string]string{
		"int":                                 "int",
		"(int -> (bool list))":                "(int -> (bool list))",
		"'1":                                  "'1",
		"'7":                                  "'1",
		"('2 -> '1)":                          "('1 -> '2)",
		"('1 -> '2)":                          "('1 -> '2)",
		"('3 * '3 * '3)":                      "('1 * '1 * '1)",
		"('5 -> ('3 * '5))":                   "('1 -> ('2 * '1))",
		"((('9 list) -> int) * '2 * '9 * '4)": "((('1 list) -> int) * '2 * '1 * '3)",
		"('2 * '3 * '1 * '2 * '1 * '3)":       "('1 * '2 * '3 * '1 * '3 * '2)",
		"(('4 t) u)":                          "(('1 t) u)",
	} {
		if got := types.Canon(of(a)); !same(got, of(want)) {
			t.Errorf("Canon(%s) = %v, want %s", a, got, want)
		}
		if got := types.Canon(of(want)); !same(got, of(want)) {
			t.Errorf("Canon(%s) = %v", want, got)
		}
	}
	if got := types.Canon(v(math.MaxInt)); !same(got, v(1)) {
		t.Errorf("Canon of the greatest variable: %v", got)
	}
}

// P10.3: Text

func TestText(t *testing.T) {
	for want, a := range map[string]api.Type{
		"'1":                             v(1),
		"'9223372036854775807":           v(math.MaxInt),
		"int":                            named("int"),
		"->":                             named("->"),
		"(int list)":                     named("list", named("int")),
		"('3 ->)":                        named("->", v(3)),
		"(('3 array) ref)":               named("ref", named("array", v(3))),
		"('1 -> '2)":                     named("->", v(1), v(2)),
		"(('1 -> '2) -> ('3 -> '4))":     named("->", named("->", v(1), v(2)), named("->", v(3), v(4))),
		"(int * '2 * ('3 array))":        named("*", named("int"), v(2), named("array", v(3))),
		"('1 t ('2 t) t t t '3)":         named("t", v(1), named("t", v(2)), named("t"), v(3)),
		"((a * b) -> (c list) -> (d *))": named("->", named("*", named("a"), named("b")), named("list", named("c")), named("*", named("d"))),
		"('1 'a \"\xff\n)":               named("'a \"\xff\n", v(1)),
	} {
		if got := types.Text(a); got != want {
			t.Errorf("Text = %s, want %s", got, want)
		}
	}
	if got := types.Text(wide(300)); got != "("+strings.Repeat("int * ", 298)+"int)" {
		t.Errorf("Text of many parts: %s", got)
	}
}
