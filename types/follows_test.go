package types_test

import (
	"maps"
	"math/rand"
	"slices"
	"testing"

	"grapnel/api"
	"grapnel/types"
)

// P10.1, P10.2: whatever the calls, a Table tells what the facts tell, up to the first error.
func TestAsTheModel(t *testing.T) {
	seen := map[api.Errno]int{}
	for seed := range 4000 {
		r := rand.New(rand.NewSource(int64(seed)))
		u, f := types.New(), &facts{known: map[int]api.Type{}}
		variables := 2 + r.Intn(8)
		for k := range 12 {
			a, b := couple(r, variables)
			if seed%5 == 0 && r.Intn(8) > 0 { // a greater one, of those ahead
				a, b = v(k+2), named("*", sprout(r, 1, k+1), v(1+k), v(1+r.Intn(k+1)), sprout(r, 1, k+1))
			}
			e, want := u.Unify(a, b), f.Unify(a, b)
			seen[e]++
			if e != want {
				t.Fatalf("seed %d: Unify(%s, %s) = %d, want %d", seed, types.Text(a), types.Text(b), e, want)
			}
			if e != api.OK {
				break
			}
			asFacts(t, r, u, f, named("*", a, b, sprout(r, 2, variables)))
		}
	}
	for e, least := range map[api.Errno]int{api.OK: 5000, api.ErrType: 500, api.ErrOccurs: 500, api.ErrMany: 10} {
		if seen[e] < least {
			t.Errorf("only %d of %d", seen[e], e)
		}
	}
}

// couple makes up two types that can often be made one.
func couple(r *rand.Rand, variables int) (api.Type, api.Type) {
	a := sprout(r, 1+r.Intn(4), variables)
	if r.Intn(4) == 0 {
		return a, sprout(r, 1+r.Intn(3), variables)
	}
	return a, altered(r, a, variables)
}

// asFacts holds a Table's other calls against the facts.
func asFacts(t *testing.T, r *rand.Rand, u *types.Table, f *facts, a api.Type) {
	t.Helper()
	f.note(a)
	want := f.resolved(a)
	if got := u.Resolve(a); !same(got, want) {
		t.Fatalf("Resolve(%s) = %s, want %s", types.Text(a), types.Text(got), types.Text(want))
	}
	nodes := len(nodesOf(want))
	for _, most := range []int{nodes - 1, nodes, nodes + 1, r.Intn(nodes + 9)} {
		if got := u.Size(a, most); got != min(nodes, most+1) {
			t.Fatalf("Size(%s, %d) = %d of %d", types.Text(a), most, got, nodes)
		}
	}
	if got := u.Vars(a); !slices.Equal(got, varsOf(want)) {
		t.Fatalf("Vars(%s) = %v, want %v", types.Text(a), got, varsOf(want))
	}
	if r.Intn(3) == 0 {
		f.greatest++
		wantFresh(t, u, f.greatest)
	}
}

// put tells a type in which each variable is what by says, if it says anything.
func put(a api.Type, by map[int]api.Type) api.Type {
	if is, ok := by[a.V]; ok {
		return is
	}
	b := api.Type{V: a.V, S: a.S}
	for _, p := range a.L {
		b.L = append(b.L, put(p, by))
	}
	return b
}

// isInstance holds that what makes two types one is an instance of what the Table knows: put behind that, it tells of each variable what it told.
func isInstance(t *testing.T, u *types.Table, by map[int]api.Type) {
	t.Helper()
	for _, n := range append(slices.Collect(maps.Keys(by)), 1001, 1002) {
		is := put(v(n), by)
		if got := put(u.Resolve(v(n)), by); !same(got, is) {
			t.Fatalf("'%d is %s, by the Table %s", n, types.Text(is), types.Text(got))
		}
	}
}

// lifted tells a type with variables here and there, which are, by what by says, those parts; by comes to know new ones.
func lifted(r *rand.Rand, a api.Type, by map[int]api.Type) api.Type {
	if r.Intn(5) == 0 {
		for n := 1; n <= len(by); n++ {
			if same(by[n], a) && r.Intn(4) > 0 {
				return v(n)
			}
		}
		by[len(by)+1] = a
		return v(len(by))
	}
	b := api.Type{V: a.V, S: a.S}
	for _, p := range a.L {
		b.L = append(b.L, lifted(r, p, by))
	}
	return b
}

// P10.4: two types that can be made one are, and that way is an instance of Unify's. The variables beyond 1000 stand in the instances alone.
func TestInstances(t *testing.T) {
	known := 0
	for seed := range 6000 {
		r := rand.New(rand.NewSource(int64(seed)))
		u, by := types.New(), map[int]api.Type{}
		for range 1 + r.Intn(4) {
			whole := sprout(r, 2+r.Intn(4), 0)
			if r.Intn(2) == 0 {
				whole = put(sprout(r, 2+r.Intn(4), 2), map[int]api.Type{1: v(1001), 2: v(1002)})
			}
			a, b := lifted(r, whole, by), lifted(r, whole, by)
			if e := u.Unify(a, b); e != api.OK {
				t.Fatalf("seed %d: Unify(%s, %s) = %d", seed, types.Text(a), types.Text(b), e)
			}
			if x, y := u.Resolve(a), u.Resolve(b); !same(x, y) {
				t.Fatalf("seed %d: %s and %s", seed, types.Text(x), types.Text(y))
			}
			isInstance(t, u, by)
		}
		for n := range by {
			if u.Resolve(v(n)).V != n {
				known++
			}
		}
	}
	if known < 5000 {
		t.Errorf("only %d variables came to be known", known)
	}
}

// small tells all types of so many nodes, of int, list, * of two and some variables.
func small(nodes, variables int) []api.Type {
	var all []api.Type
	if nodes == 1 {
		all = append(all, named("int"))
		for n := range variables {
			all = append(all, v(n+1))
		}
		return all
	}
	for _, a := range small(nodes-1, variables) {
		all = append(all, named("list", a))
	}
	for left := 1; left < nodes-1; left++ {
		for _, a := range small(left, variables) {
			for _, b := range small(nodes-1-left, variables) {
				all = append(all, pair(a, b))
			}
		}
	}
	return all
}

func upTo(nodes, variables int) []api.Type {
	var all []api.Type
	for n := 1; n <= nodes; n++ {
		all = append(all, small(n, variables)...)
	}
	return all
}

// P10.4: of all pairs of small types those that some small types in place of variables make one are made one, and those are instances; both ways round.
func TestAllSmall(t *testing.T) {
	whole := upTo(5, 0)
	all := upTo(4, 2)
	for _, a := range all {
		for _, b := range all {
			u, back := types.New(), types.New()
			e := u.Unify(a, b)
			if back.Unify(b, a) != e {
				t.Fatalf("Unify(%s, %s) = %d, and not the other way round", types.Text(a), types.Text(b), e)
			}
			if e == api.OK && !same(types.Canon(u.Resolve(a)), types.Canon(back.Resolve(b))) {
				t.Fatalf("Unify(%s, %s) is another one the other way round", types.Text(a), types.Text(b))
			}
			for _, one := range whole {
				for _, two := range whole {
					by := map[int]api.Type{1: one, 2: two}
					if !same(put(a, by), put(b, by)) {
						continue
					}
					if e != api.OK {
						t.Fatalf("Unify(%s, %s) = %d, but there is %v", types.Text(a), types.Text(b), e, by)
					}
					isInstance(t, u, by)
				}
			}
		}
	}
}

// P10.3: Canon changes nothing but numbers, and Text writes types that differ otherwise.
func TestCanonAndText(t *testing.T) {
	for seed := range 3000 {
		r := rand.New(rand.NewSource(int64(seed)))
		a := sprout(r, 5, 9)
		c := types.Canon(a)
		old, now := varsOf(a), varsOf(c)
		by := map[int]api.Type{}
		for i, n := range now {
			if n != i+1 || len(now) != len(old) {
				t.Fatalf("Canon(%s) = %s", types.Text(a), types.Text(c))
			}
			by[n] = v(old[i])
		}
		if !same(put(c, by), a) {
			t.Fatalf("Canon(%s) = %s", types.Text(a), types.Text(c))
		}
		if !types.May(a) || !same(of(types.Text(a)), a) {
			t.Fatalf("Text(%v) = %s", a, types.Text(a))
		}
	}
}
