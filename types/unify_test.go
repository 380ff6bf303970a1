package types_test

import (
	"testing"

	"grapnel/api"
	"grapnel/types"
)

// wide tells a type of so many nodes, beside one another.
func wide(nodes int) api.Type {
	a := named("*")
	for range nodes - 1 {
		a.L = append(a.L, named("int"))
	}
	return a
}

// deep tells a type of so many nodes, within one another, at last a.
func deep(nodes int, a api.Type) api.Type {
	for range nodes - 1 {
		a = named("list", a)
	}
	return a
}

// P10.2: of variables

func TestUnifyOfAVariableWithItself(t *testing.T) {
	u := types.New()
	wantUnify(t, u, "'1", "'1", api.OK)
	wantResolve(t, u, "'1", "'1")
	wantUnify(t, u, "('1 * ('2 list))", "('1 * ('2 list))", api.OK)
	wantResolve(t, u, "('1 * '2)", "('1 * '2)")
	wantUnify(t, u, "'1", "'2", api.OK)
	wantUnify(t, u, "'1", "'2", api.OK)
	wantUnify(t, u, "'2", "'1", api.OK)
	wantResolve(t, u, "('1 * '2)", "('2 * '2)")
	wantUnify(t, u, "'1", "(int list)", api.OK)
	wantUnify(t, u, "'1", "'1", api.OK)
	wantUnify(t, u, "'1", "'2", api.OK)
	wantResolve(t, u, "('1 * '2)", "((int list) * (int list))")
}

func TestUnifyOfTwoVariables(t *testing.T) {
	u := types.New()
	wantUnify(t, u, "'1", "'2", api.OK)
	wantResolve(t, u, "('1 * '2)", "('2 * '2)")
	u = types.New()
	wantUnify(t, u, "'2", "'1", api.OK)
	wantResolve(t, u, "('1 * '2)", "('1 * '1)")
	wantUnify(t, u, "'2", "'3", api.OK)
	wantResolve(t, u, "('1 * '2 * '3)", "('3 * '3 * '3)")
	wantUnify(t, u, "'4", "'2", api.OK)
	wantResolve(t, u, "('1 * '2 * '3 * '4)", "('3 * '3 * '3 * '3)")
	wantUnify(t, u, "('5 -> ('6 list))", "('6 -> ('4 list))", api.OK)
	wantResolve(t, u, "('5 * '6 * '4)", "('3 * '3 * '3)")
	u = types.New()
	wantUnify(t, u, "('1 * '2 * '3)", "('2 * '3 * '1)", api.OK)
	wantResolve(t, u, "('1 * '2 * '3)", "('3 * '3 * '3)")
}

func TestUnifyOfAVariableAndAName(t *testing.T) {
	for _, s := range []string{"int", "('2 list)", "(('2 -> int) * '3 * ('2 list))"} {
		u := types.New()
		wantUnify(t, u, "'1", s, api.OK)
		wantResolve(t, u, "'1", s)
		u = types.New()
		wantUnify(t, u, s, "'1", api.OK)
		wantResolve(t, u, "'1", s)
		wantUnify(t, u, "'1", s, api.OK)
		wantResolve(t, u, "'1", s)
		wantResolve(t, u, "('2 * '3)", "('2 * '3)")
	}
}

// P10.2: ErrOccurs

func TestOccurs(t *testing.T) {
	for _, s := range []string{"('1 list)", "('2 * '1)", "(int -> (bool * (('1 ref) list) * '2))"} {
		wantUnify(t, types.New(), "'1", s, api.ErrOccurs)
		wantUnify(t, types.New(), s, "'1", api.ErrOccurs)
		wantUnify(t, types.New(), "('3 * '1)", "(int * "+s+")", api.ErrOccurs)
	}
}

func TestOccursByWhatIsKnown(t *testing.T) {
	known := func() *types.Table {
		u := types.New()
		wantUnify(t, u, "'2", "('1 list)", api.OK)
		wantUnify(t, u, "'3", "'2", api.OK)
		wantUnify(t, u, "'4", "(int -> '3)", api.OK)
		wantUnify(t, u, "'1", "'5", api.OK)
		return u
	}
	wantUnify(t, known(), "'1", "'2", api.ErrOccurs)
	wantUnify(t, known(), "'2", "'1", api.ErrOccurs)
	wantUnify(t, known(), "'5", "'3", api.ErrOccurs)
	wantUnify(t, known(), "'1", "'4", api.ErrOccurs)
	wantUnify(t, known(), "'4", "'5", api.ErrOccurs)
	wantUnify(t, known(), "'5", "(int * '4)", api.ErrOccurs)
	wantUnify(t, known(), "('1 * int)", "('5 * '2)", api.ErrType)
	wantUnify(t, known(), "'1", "'5", api.OK)
	wantUnify(t, known(), "'3", "'2", api.OK)
}

func TestOccursByThePairsAhead(t *testing.T) {
	wantUnify(t, types.New(), "('1 * '1)", "('2 * ('2 list))", api.ErrOccurs)
	wantUnify(t, types.New(), "('1 * '2)", "(('2 list) * ('1 list))", api.ErrOccurs)
	wantUnify(t, types.New(), "('1 * '2 * '3)", "(('2 list) * ('3 list) * '1)", api.ErrOccurs)
	wantUnify(t, types.New(), "('1 * '2 * '1)", "(('3 list) * ('1 list) * '2)", api.ErrOccurs)
	wantUnify(t, types.New(), "('1 * '2 * '3)", "(('2 list) * ('3 list) * '4)", api.OK)
}

// P10.2: ErrType

func TestUnlike(t *testing.T) {
	for _, c := range [][2]string{
		{"int", "bool"}, {"int", "Int"}, {"int", "(int list)"}, {"(int list)", "(int ref)"}, {"('1 list)", "('2 ref)"},
		{"(int * int)", "(int * int * int)"}, {"('1 -> '2)", "('1 * '2)"}, {"t", "('1 t)"}, {"('1 t)", "('1 t '2)"},
		{"('1 t '2 t '3)", "('1 t '2)"}, {"(int -> (int -> bool))", "(int -> (int -> string))"},
		{"((('1 list) list) list)", "((('1 list) ref) list)"}, {"('1 -> '1)", "(int -> bool)"},
	} {
		wantUnify(t, types.New(), c[0], c[1], api.ErrType)
		wantUnify(t, types.New(), c[1], c[0], api.ErrType)
		u := types.New()
		wantUnify(t, u, "'11", c[0], api.OK)
		wantUnify(t, u, "'12", c[1], api.OK)
		wantUnify(t, u, "'11", "'12", api.ErrType)
	}
}

// P10.2: the first error from the left, each pair ahead of its parts

func TestTheFirstError(t *testing.T) {
	for _, c := range []struct {
		a, b string
		want api.Errno
	}{
		{"(int * '1)", "(bool * ('1 list))", api.ErrType},
		{"('1 * int)", "(('1 list) * bool)", api.ErrOccurs},
		{"((int list) * '1)", "((bool list) * ('1 list))", api.ErrType},
		{"('1 * ('1 list))", "(('1 list) * '1)", api.ErrOccurs},
		{"('1 -> int)", "(('1 list) * int)", api.ErrType},
		{"('1 * int)", "(('1 list) * int * int)", api.ErrType},
		{"(('1 list) -> ('2 * int))", "(('3 list) -> (('2 list) * bool))", api.ErrOccurs},
		{"('1 * ('2 t) * '3)", "(int * ('2 u) * ('3 list))", api.ErrType},
		{"('1 * '3 * ('2 t))", "(int * ('3 list) * ('2 u))", api.ErrOccurs},
		{"('1 * '2 * '1)", "('2 * int * bool)", api.ErrType},
		{"('1 * '1 * '2)", "(int * bool * ('2 list))", api.ErrType},
		{"('1 * '2 * '1)", "('2 * ('1 list) * bool)", api.ErrOccurs},
	} {
		wantUnify(t, types.New(), c.a, c.b, c.want)
		wantUnify(t, types.New(), c.b, c.a, c.want)
	}
}

// P10.2: parts that are known only by the pairs ahead of them

func TestPartsByThePairsAhead(t *testing.T) {
	for _, c := range []struct{ a, b, ask, want string }{
		{"('1 * '2)", "('2 * int)", "('1 * '2)", "(int * int)"},
		{"('1 -> '2)", "(int -> '1)", "('1 * '2)", "(int * int)"},
		{"('1 * '1)", "(('2 list) * ('3 list))", "('1 * '2)", "(('3 list) * '3)"},
		{"('1 * '1)", "(('2 -> int) * (bool -> '3))", "('1 * '2 * '3)", "((bool -> int) * bool * int)"},
		{"('1 * '2 * '1)", "(('3 list) * ('4 list) * '2)", "('1 * '2 * '3)", "(('4 list) * ('4 list) * '4)"},
		{"('1 * '2 * '3)", "(('2 * '2) * ('3 * '3) * int)", "'1", "((int * int) * (int * int))"},
		{"(('1 * '2) -> ('1 * '2))", "(('2 * int) -> '3)", "'3", "(int * int)"},
	} {
		u := types.New()
		wantUnify(t, u, c.a, c.b, api.OK)
		wantResolve(t, u, c.ask, c.want)
		if got := u.Resolve(of(c.a)); !same(got, u.Resolve(of(c.b))) {
			t.Errorf("%s and %s: %v", c.a, c.b, got)
		}
	}
}

// P10.2: ErrMany

func TestManyNodes(t *testing.T) {
	for n, want := range map[int]api.Errno{
		api.MaxType - 1: api.OK, api.MaxType: api.OK, api.MaxType + 1: api.ErrMany, api.MaxType + 2: api.ErrMany, 5000: api.ErrMany,
	} {
		for _, a := range []api.Type{wide(n), deep(n, named("int")), deep(n, v(2)), deep(n-3, named("*", v(2), v(2), named("int")))} {
			if e := types.New().Unify(a, v(1)); e != want {
				t.Errorf("%d nodes: %d", n, e)
			}
			if e := types.New().Unify(v(1), a); e != want {
				t.Errorf("%d nodes, second: %d", n, e)
			}
			if e := types.New().Unify(a, a); e != want {
				t.Errorf("%d nodes, twice: %d", n, e)
			}
		}
	}
}

func TestManyNodesResolved(t *testing.T) {
	for n, want := range map[int]api.Errno{api.MaxType: api.OK, api.MaxType + 1: api.ErrMany} {
		for _, a := range []api.Type{v(7), named("x", v(7), v(8))} {
			u := types.New()
			if e := u.Unify(v(6), deep(200, v(5))); e != api.OK {
				t.Fatal(e)
			}
			if e := u.Unify(v(7), v(6)); e != api.OK {
				t.Fatal(e)
			}
			rest := n - u.Size(a, 999)
			if e := u.Unify(v(5), deep(rest+1, v(4))); e != api.OK {
				t.Fatal(e)
			}
			if got := u.Size(a, 999); got != n {
				t.Fatal(got)
			}
			if e := u.Unify(a, v(1)); e != want {
				t.Errorf("%d nodes: %d", n, e)
			}
		}
	}
}

func TestManyAheadOfOthers(t *testing.T) {
	great := deep(api.MaxType+1, v(1))
	for _, a := range []api.Type{named("int"), v(1), great, named("list", named("int"))} {
		for _, p := range [][2]api.Type{{a, great}, {great, a}} {
			u := types.New()
			if e := u.Unify(p[0], p[1]); e != api.ErrMany {
				t.Errorf("Unify = %d", e)
			}
			wantResolve(t, u, "'1", "'1")
		}
	}
}

// What grows beyond the bound on the way isn't asked for.
func TestGrownOnTheWay(t *testing.T) {
	u := types.New()
	a, b := named("*", v(1), v(1), v(1)), named("*", v(2), wide(api.MaxType-4), v(3))
	if e := u.Unify(a, b); e != api.OK {
		t.Fatal(e)
	}
	if n := u.Size(a, 5000); n != 3*(api.MaxType-4)+1 {
		t.Errorf("Size = %d", n)
	}
	if e := u.Unify(a, v(9)); e != api.ErrMany {
		t.Errorf("Unify = %d", e)
	}
	if e := u.Unify(v(1), v(3)); e != api.OK {
		t.Errorf("Unify = %d", e)
	}
}
