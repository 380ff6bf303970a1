package types_test

import (
	"math"
	"math/rand"
	"slices"
	"testing"

	"grapnel/api"
	"grapnel/types"
)

// spoil makes all nodes of a type others, in place.
func spoil(a *api.Type) {
	for i := range a.L {
		spoil(&a.L[i])
	}
	a.V, a.S = 0, "spoilt"
	clear(a.L)
}

// R3: a Table keeps nothing of what it is handed, and changes nothing of it.
func TestArgumentsStay(t *testing.T) {
	u := types.New()
	a, b := of("('1 * ('2 list) * '3)"), of("((int -> '2) * '4 * ('5 ref))")
	c, d := copied(a), copied(b)
	if e := u.Unify(a, b); e != api.OK {
		t.Fatal(e)
	}
	x := pair(a, b)
	y := copied(x)
	u.Resolve(x)
	u.Size(x, 99)
	u.Vars(x)
	types.Canon(x)
	types.Text(x)
	types.May(x)
	if !same(a, c) || !same(b, d) || !same(x, y) {
		t.Errorf("%v, %v, %v", a, b, x)
	}
	spoil(&a)
	spoil(&b)
	wantResolve(t, u, "('1 * '3 * '4)", "((int -> '2) * ('5 ref) * ('2 list))")
}

// R3: an answer shares nothing with the Table, with what was handed, or within itself.
func TestAnswersAreApart(t *testing.T) {
	u := types.New()
	wantUnify(t, u, "'1", "(('2 list) * int)", api.OK)
	want := "((('2 list) * int) -> ((('2 list) * int) * ('3 ref)))"
	a := of("('1 -> ('1 * ('3 ref)))")
	got := u.Resolve(a)
	other := u.Resolve(a)
	spoil(&got.L[0])
	if !same(got.L[1], of(want).L[1]) {
		t.Errorf("one part spoils the other one: %v", got)
	}
	spoil(&got)
	if !same(other, of(want)) || !same(a, of("('1 -> ('1 * ('3 ref)))")) {
		t.Errorf("%v, %v", other, a)
	}
	wantResolve(t, u, "('1 -> ('1 * ('3 ref)))", want)
	vars := u.Vars(a)
	clear(vars)
	wantVars(t, u, "('1 -> ('1 * ('3 ref)))", 2, 3)
	part := named("list", v(7))
	a = pair(part, part)
	got = types.Canon(a)
	spoil(&got.L[0])
	if !same(got.L[1], named("list", v(1))) || !same(a, pair(part, part)) || !same(part, named("list", v(7))) {
		t.Errorf("%v, %v", got, a)
	}
}

// R6: no list and an empty one are one.
func TestEmptyLists(t *testing.T) {
	u := types.New()
	if e := u.Unify(api.Type{S: "a", L: []api.Type{}}, named("a")); e != api.OK {
		t.Error(e)
	}
	if e := u.Unify(api.Type{V: 1, L: []api.Type{}}, named("a")); e != api.OK {
		t.Error(e)
	}
	if e := u.Unify(api.Type{V: 2, L: []api.Type{}}, v(2)); e != api.OK {
		t.Error(e)
	}
	wantResolve(t, u, "('1 * '2)", "(a * '2)")
}

// R1: a Table that New didn't make knows nothing either; one that isn't there comes to know nothing.
func TestOtherTables(t *testing.T) {
	u := &types.Table{}
	wantFresh(t, u, 1)
	wantUnify(t, u, "'1", "('2 list)", api.OK)
	wantResolve(t, u, "'1", "('2 list)")
	wantSize(t, &types.Table{}, "('1 -> '1)", 9, 3)
	wantVars(t, &types.Table{}, "('2 -> '1)", 2, 1)
	var none *types.Table
	wantFresh(t, none, 1)
	wantUnify(t, none, "'1", "int", api.OK)
	wantUnify(t, none, "'1", "('1 list)", api.ErrOccurs)
	wantResolve(t, none, "'1", "'1")
	wantSize(t, none, "('1 -> '1)", 1, 2)
	wantVars(t, none, "('2 -> '1)", 2, 1)
	wantFresh(t, none, 1)
}

// wild makes up a type that may be or not.
func wild(r *rand.Rand, depth int) api.Type {
	a := sprout(r, 1, 4)
	switch r.Intn(12) {
	case 0:
		a.V = -r.Intn(5)
	case 1:
		a.V = 1 + r.Intn(4)
	case 2:
		a.S = ""
	case 3:
		a.V = []int{math.MaxInt, math.MinInt, math.MaxInt - 1}[r.Intn(3)]
	}
	for depth > 0 && r.Intn(3) > 0 {
		a.L = append(a.L, wild(r, depth-1))
	}
	return a
}

// R1, P10.2: behind errors, and of types that may not be, calls end, none panics, and what they tell may be.
func TestCallsEnd(t *testing.T) {
	bad := 0
	soon(t, func() {
		for seed := range 3000 {
			r := rand.New(rand.NewSource(int64(seed)))
			u := types.New()
			for range 15 {
				a, b := wild(r, 2), sprout(r, 3, 4)
				if r.Intn(2) == 0 {
					a = sprout(r, 3, 4)
				}
				if r.Intn(2) == 0 {
					a, b = b, a
				}
				if e := u.Unify(a, b); e != api.OK {
					bad++
				}
				u.Size(a, 99)
				types.Canon(a)
				types.Text(a)
				u.Fresh()
				if u.Size(b, 4000) < 4000 && types.May(b) && !types.May(u.Resolve(b)) {
					t.Errorf("seed %d: Resolve(%s) may not be", seed, types.Text(b))
				}
				if slices.ContainsFunc(u.Vars(a), func(n int) bool { return n <= 0 }) {
					t.Errorf("seed %d: Vars(%v) = %v", seed, a, u.Vars(a))
				}
			}
		}
	})
	if bad < 5000 {
		t.Errorf("only %d errors", bad)
	}
}

// P10.2: behind each error a Table's calls end, of the very types too.
func TestCallsBehindErrors(t *testing.T) {
	soon(t, func() {
		for _, c := range [][2]string{
			{"'1", "('1 list)"}, {"('1 * '2)", "(('2 list) * ('1 list))"}, {"('1 * '1)", "('2 * ('2 * '2))"},
			{"('1 * '2 * int)", "(('2 * '2) * '3 * bool)"}, {"('1 * '2 * '1)", "(('3 list) * ('1 list) * '2)"},
		} {
			u := types.New()
			for range 5 {
				if e := u.Unify(of(c[0]), of(c[1])); e == api.OK {
					t.Errorf("Unify(%s, %s) is OK", c[0], c[1])
				}
				for _, s := range []string{c[0], c[1], "('1 * '2 * '3)"} {
					u.Resolve(of(s))
					u.Size(of(s), math.MaxInt)
					u.Vars(of(s))
					u.Fresh()
					u.Unify(of(s), v(4))
					u.Unify(v(5), of(s))
				}
			}
		}
	})
}

// R4, R5: the same calls tell the same, whatever other Tables are asked between them.
func TestTablesAreApart(t *testing.T) {
	course := func(u *types.Table, seed int64, between func()) string {
		r := rand.New(rand.NewSource(seed))
		told := ""
		for range 9 {
			a := sprout(r, 3, 5)
			b := altered(r, a, 5)
			told += string(rune('a'+u.Unify(a, b))) + types.Text(u.Fresh())
			if u.Size(a, 500) <= 500 {
				told += types.Text(u.Resolve(a))
			}
			between()
		}
		return told
	}
	for seed := range int64(300) {
		alone := course(types.New(), seed, func() {})
		other := types.New()
		beside := course(types.New(), seed, func() { course(other, seed+1, func() {}) })
		if alone != beside {
			t.Fatalf("seed %d:\n%s\n%s", seed, alone, beside)
		}
	}
}
