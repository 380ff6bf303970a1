package types_test

import (
	"strconv"
	"strings"
	"testing"
	"time"

	"grapnel/api"
	"grapnel/types"
)

func v(n int) api.Type { return api.Type{V: n} }

func named(s string, parts ...api.Type) api.Type { return api.Type{S: s, L: parts} }

func pair(a, b api.Type) api.Type { return named("*", a, b) }

// of reads what Text writes.
func of(s string) api.Type {
	words := strings.Fields(strings.NewReplacer("(", " ( ", ")", " ) ").Replace(s))
	a, rest := read(words)
	if len(rest) > 0 {
		panic("what is " + s)
	}
	return a
}

func read(words []string) (api.Type, []string) {
	first, rest := words[0], words[1:]
	if n, is := strings.CutPrefix(first, "'"); is {
		k, err := strconv.Atoi(n)
		if err != nil {
			panic(err)
		}
		return v(k), rest
	}
	if first != "(" {
		return named(first), rest
	}
	part, rest := read(rest)
	a := named(rest[0], part)
	for rest[0] != ")" {
		if rest[0] != a.S {
			panic("another name: " + rest[0])
		}
		rest = rest[1:]
		if rest[0] != ")" {
			part, rest = read(rest)
			a.L = append(a.L, part)
		}
	}
	return a, rest[1:]
}

// same holds two types against each other, field by field; no list and an empty one are one.
func same(a, b api.Type) bool {
	if a.V != b.V || a.S != b.S || len(a.L) != len(b.L) {
		return false
	}
	for i := range a.L {
		if !same(a.L[i], b.L[i]) {
			return false
		}
	}
	return true
}

// copied tells a type that shares nothing with a.
func copied(a api.Type) api.Type {
	c := api.Type{V: a.V, S: a.S}
	for _, p := range a.L {
		c.L = append(c.L, copied(p))
	}
	return c
}

func wantUnify(t *testing.T, u *types.Table, a, b string, want api.Errno) {
	t.Helper()
	if e := u.Unify(of(a), of(b)); e != want {
		t.Errorf("Unify(%s, %s) = %d, want %d", a, b, e, want)
	}
}

func wantResolve(t *testing.T, u *types.Table, a, want string) {
	t.Helper()
	if got := u.Resolve(of(a)); !same(got, of(want)) {
		t.Errorf("Resolve(%s) = %v, want %s", a, got, want)
	}
}

func wantSize(t *testing.T, u *types.Table, a string, most, want int) {
	t.Helper()
	if n := u.Size(of(a), most); n != want {
		t.Errorf("Size(%s, %d) = %d, want %d", a, most, n, want)
	}
}

func wantFresh(t *testing.T, u *types.Table, want int) {
	t.Helper()
	if got := u.Fresh(); !same(got, v(want)) {
		t.Errorf("Fresh() = %v, want %d", got, want)
	}
}

// soon holds that something ends long before a walk through all of a great type could.
func soon(t *testing.T, f func()) {
	t.Helper()
	done := make(chan int)
	go func() {
		defer close(done)
		f()
	}()
	select {
	case <-done:
	case <-time.After(20 * time.Second):
		t.Fatal("it doesn't end soon")
	}
}

func TestRead(t *testing.T) {
	for s, want := range map[string]api.Type{
		"'12":                       v(12),
		"int":                       named("int"),
		"(int list)":                named("list", named("int")),
		"(('1 t) -> ('2 * u * '1))": named("->", named("t", v(1)), named("*", v(2), named("u"), v(1))),
	} {
		if got := of(s); !same(got, want) {
			t.Errorf("of(%s) = %v", s, got)
		}
	}
}
