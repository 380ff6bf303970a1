package types_test

import (
	"math"
	"slices"
	"testing"

	"grapnel/api"
	"grapnel/types"
)

// doubled tells a Table in which the variable k + 1 is twice the variable k, from 1 on up to n.
func doubled(t *testing.T, n int, twice func(k int) api.Type) *types.Table {
	t.Helper()
	u := types.New()
	for k := n - 1; k > 0; k-- { // the greatest first, as nothing that is handed may have many nodes
		if e := u.Unify(v(k+1), twice(k)); e != api.OK {
			t.Fatalf("%d: %d", k, e)
		}
	}
	return u
}

func twin(k int) api.Type { return pair(v(k), v(k)) }

// P10.1: Size and Vars, soon, of types with a great many nodes

func TestGreat(t *testing.T) {
	for what, u := range map[string]*types.Table{
		"pairs": doubled(t, 62, twin),
		"deeper": doubled(t, 62, func(k int) api.Type {
			if k%2 == 0 {
				return named("*", pair(v(k-1), v(k-1)), pair(v(k-1), v(k-1)))
			}
			return twin(k)
		}),
	} {
		soon(t, func() {
			for n, want := range map[int]int{1: 1, 2: 3, 3: 7, 11: 2047, 41: 1<<41 - 1, 62: 1<<62 - 1} {
				for _, most := range []int{0, 1, 2, 500, want - 1, want, want + 1, math.MaxInt - 1} {
					if got := u.Size(v(n), most); got != min(want, most+1) {
						t.Errorf("%s: Size('%d, %d) = %d, want %d", what, n, most, got, min(want, most+1))
					}
				}
				if got := u.Size(v(n), math.MaxInt); got != want {
					t.Errorf("%s: Size('%d) = %d, want %d", what, n, got, want)
				}
			}
			if got := u.Vars(v(61)); !slices.Equal(got, []int{1}) {
				t.Errorf("%s: Vars = %v", what, got)
			}
		})
	}
}

func TestGreaterThanANumber(t *testing.T) {
	u := doubled(t, 400, twin)
	soon(t, func() {
		for _, most := range []int{0, 1, 1000, 1 << 40, math.MaxInt - 2, math.MaxInt - 1} {
			for _, a := range []api.Type{v(400), twin(400), named("x", v(1), v(300), v(400))} {
				if got := u.Size(a, most); got != most+1 {
					t.Errorf("Size(.., %d) = %d", most, got)
				}
			}
		}
		if got := u.Size(v(400), math.MaxInt); got != math.MaxInt {
			t.Errorf("Size(.., the greatest) = %d", got)
		}
		if got := u.Size(v(400), -1); got != 0 {
			t.Errorf("Size(.., -1) = %d", got)
		}
		if got := u.Vars(pair(v(400), v(401))); !slices.Equal(got, []int{1, 401}) {
			t.Errorf("Vars = %v", got)
		}
		if e := u.Unify(v(400), v(500)); e != api.ErrMany {
			t.Errorf("Unify = %d", e)
		}
		if e := u.Unify(v(400), v(400)); e != api.ErrMany {
			t.Errorf("Unify = %d", e)
		}
	})
	wantFresh(t, u, 501)
}

// Through variables that are others, each of which is met by itself.
func TestGreatThroughOthers(t *testing.T) {
	u := types.New()
	for k := 98; k > 0; k-- {
		for _, c := range [][2]api.Type{
			{v(k + 1), pair(v(1000+k), v(2000+k))}, {v(1000 + k), v(3000 + k)}, {v(3000 + k), v(k)}, {v(2000 + k), v(k)},
		} {
			if e := u.Unify(c[0], c[1]); e != api.OK {
				t.Fatalf("%d: %d", k, e)
			}
		}
	}
	soon(t, func() {
		if got := u.Size(v(99), 1<<60); got != 1<<60+1 {
			t.Errorf("Size = %d", got)
		}
		if got := u.Size(v(11), 1<<60); got != 2047 {
			t.Errorf("Size = %d", got)
		}
		if got := u.Vars(v(99)); !slices.Equal(got, []int{1}) {
			t.Errorf("Vars = %v", got)
		}
	})
}

func TestVarsOfAGreatOneInOrder(t *testing.T) {
	u := doubled(t, 90, func(k int) api.Type { return named("*", v(k), v(k), v(1000-k), v(k)) })
	var want []int
	for k := 0; k < 90; k++ {
		want = append(want, 1000-k)
	}
	want[0] = 1
	soon(t, func() {
		if got := u.Vars(v(90)); !slices.Equal(got, want) {
			t.Errorf("Vars = %v", got)
		}
		if got := u.Vars(pair(v(990), v(90))); !slices.Equal(got[:3], []int{990, 1, 999}) || len(got) != 90 {
			t.Errorf("Vars = %v", got)
		}
	})
}

// P10.2: types that become great while they are made one

// rows tells two types that make each of the variables from a on, n of them, what form tells of the next one; and ends tells more pairs.
func rows(n int, from []int, form func(next api.Type) api.Type, ends ...[2]api.Type) (api.Type, api.Type) {
	a, b := named("*"), named("*")
	for _, f := range from {
		for k := range n {
			a.L = append(a.L, v(f+k))
			b.L = append(b.L, form(v(f+k+1)))
		}
	}
	for _, e := range ends {
		a.L = append(a.L, e[0])
		b.L = append(b.L, e[1])
	}
	return a, b
}

func quad(a api.Type) api.Type { return pair(pair(a, a), pair(a, a)) }

func TestUnifyOfWhatBecomesGreat(t *testing.T) {
	double := func(a api.Type) api.Type { return pair(a, a) }
	for what, c := range map[string]struct {
		n     int
		form  func(api.Type) api.Type
		ends  [][2]api.Type
		want  api.Errno
		names int // how many variables are left
	}{
		"alone":               {60, double, nil, api.OK, 2},
		"together":            {60, double, [][2]api.Type{{v(100), v(200)}}, api.OK, 1},
		"together, the ends":  {60, double, [][2]api.Type{{v(160), v(260)}, {v(100), v(200)}}, api.OK, 1},
		"ends unlike":         {60, double, [][2]api.Type{{v(160), named("int")}, {v(260), named("bool")}, {v(100), v(200)}}, api.ErrType, 0},
		"end within":          {60, double, [][2]api.Type{{v(160), named("list", v(260))}, {v(100), v(200)}}, api.ErrOccurs, 0},
		"quads":               {30, quad, [][2]api.Type{{v(100), v(200)}}, api.OK, 1},
		"out of step":         {30, quad, [][2]api.Type{{v(130), pair(v(300), v(300))}, {v(100), pair(v(200), v(200))}}, api.OK, 1},
		"out of step, swap":   {30, quad, [][2]api.Type{{v(130), pair(v(300), v(300))}, {pair(v(200), v(200)), v(100)}}, api.OK, 1},
		"out of step, within": {30, quad, [][2]api.Type{{v(100), pair(v(200), v(200))}, {v(130), v(230)}}, api.ErrOccurs, 0},
	} {
		a, b := rows(c.n, []int{100, 200}, c.form, c.ends...)
		for _, p := range [][2]api.Type{{a, b}, {b, a}} {
			soon(t, func() {
				u := types.New()
				if e := u.Unify(p[0], p[1]); e != c.want {
					t.Errorf("%s: Unify = %d, want %d", what, e, c.want)
				}
				if c.want != api.OK {
					return
				}
				x, y := u.Vars(p[0]), u.Vars(p[1])
				if !slices.Equal(x, y) || len(x) != c.names {
					t.Errorf("%s: Vars = %v and %v", what, x, y)
				}
				if n := u.Size(p[0], 1<<50); n != 1<<50+1 || u.Size(p[1], 1<<50) != n {
					t.Errorf("%s: Size = %d", what, n)
				}
				if e := u.Unify(v(100), v(200)); e != api.ErrMany {
					t.Errorf("%s: Unify = %d", what, e)
				}
			})
		}
	}
}

// What was made one on a great way is so in each part, as the parts near its end show.
func TestPartsOfWhatBecameGreat(t *testing.T) {
	a, b := rows(30, []int{100, 200}, quad, [][2]api.Type{{v(130), pair(v(300), v(300))}, {v(100), pair(v(200), v(200))}}...)
	u := types.New()
	if e := u.Unify(a, b); e != api.OK {
		t.Fatal(e)
	}
	for k := range 3 {
		x, y := u.Resolve(v(130-k)), u.Resolve(pair(v(230-k), v(230-k)))
		if !same(x, y) {
			t.Errorf("%d: %s and %s", k, types.Text(x), types.Text(y))
		}
	}
	if x := u.Resolve(v(230)); !same(x, v(300)) && !same(u.Resolve(v(300)), x) {
		t.Errorf("the end is %v", x)
	}
}

// Many parts within one another: by what is handed, and by what is known.
func TestDeep(t *testing.T) {
	const n = 1 << 16
	u := types.New()
	a := deep(n, v(3))
	if got := u.Size(a, 1<<20); got != n || !types.May(a) {
		t.Errorf("Size = %d", got)
	}
	if got := u.Vars(a); !slices.Equal(got, []int{3}) {
		t.Errorf("Vars = %v", got)
	}
	if got := types.Canon(u.Resolve(a)); !same(got, deep(n, v(1))) || len(types.Text(got)) != 7*(n-1)+2 {
		t.Error("Resolve, Canon or Text")
	}
	if e := u.Unify(a, a); e != api.ErrMany {
		t.Errorf("Unify = %d", e)
	}
	for k := 10; k < n; k++ {
		if e := u.Unify(v(k), named("list", v(k+1))); e != api.OK {
			t.Fatalf("%d: %d", k, e)
		}
	}
	soon(t, func() {
		for range 1000 { // of a small most, soon enough
			if got := u.Size(v(10), 99); got != 100 {
				t.Errorf("Size = %d", got)
			}
		}
	})
	if got := u.Size(v(10), 1<<20); got != n-9 {
		t.Errorf("Size = %d", got)
	}
	if got := u.Resolve(v(n - 2)); !same(got, deep(3, v(n))) {
		t.Errorf("Resolve = %v", got)
	}
}
