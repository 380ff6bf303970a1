package infer_test

import (
	"strings"
	"testing"

	"grapnel/api"
	"grapnel/core"
	"grapnel/infer"
	"grapnel/parse"
	"grapnel/types"
)

// head declares what the expressions of the tests name.
const head = "type t = A | B of int | C of t * (int -> bool) | D " +
	"type r = {x : int; mutable y : t} " +
	"type s = {mutable z : s list; w : r -> string ref} " +
	"exception N exception E of string exception P of int * r let _ = "

// resolved tells what is declared, and a source's core.
func resolved(t *testing.T, s string) (api.Decls, api.Core) {
	t.Helper()
	n, e, at := parse.Parse(s)
	if e != api.OK {
		t.Fatalf("%s: parse tells %d at %d", s, e, at)
	}
	d, c, e, at := core.Resolve(n)
	if e != api.OK {
		t.Fatalf("%s: core tells %d at %d", s, e, at)
	}
	return d, c
}

// expression tells what the head declares, and the core of an expression behind it.
func expression(t *testing.T, s string) (api.Decls, api.Core) {
	t.Helper()
	d, c := resolved(t, head+s)
	return d, c.L[0]
}

// isType holds that an expression has this type.
func isType(t *testing.T, s, want string) {
	t.Helper()
	d, c := expression(t, s)
	got, e, at := infer.Infer(d, c)
	if e != api.OK || at != 0 || types.Text(got) != want {
		t.Errorf("%s: got %s, %d at %d, want %s", s, types.Text(got), e, at-len(head), want)
	}
}

// isFault holds that an expression has this error, at the place where it is marked by @, and nothing beside it.
func isFault(t *testing.T, marked string, want api.Errno) {
	t.Helper()
	place := strings.Index(marked, "@")
	if place < 0 || strings.Count(marked, "@") > 1 {
		t.Fatalf("%s: not one mark", marked)
	}
	s := strings.Replace(marked, "@", "", 1)
	d, c := expression(t, s)
	got, e, at := infer.Infer(d, c)
	if e != want || at != len(head)+place {
		t.Errorf("%s: got %s, %d at %d, want %d at %d", s, types.Text(got), e, at-len(head), want, place)
	}
	if got.V != 0 || got.S != "" || got.L != nil {
		t.Errorf("%s: %v beside the error", s, got)
	}
}

// same tells whether two types are the same; no parts and none are one.
func same(a, b api.Type) bool {
	if a.V != b.V || a.S != b.S || len(a.L) != len(b.L) {
		return false
	}
	for i := range a.L {
		if !same(a.L[i], b.L[i]) {
			return false
		}
	}
	return true
}
