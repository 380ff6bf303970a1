package core_test

import (
	"strconv"
	"strings"
	"testing"

	"grapnel/api"
	"grapnel/core"
)

const builtInTold = "exception Match_failure 0\nexception Division_by_zero 1\nexception Invalid_argument 2\nexception End_of_file 3\nexception Not_found 4\nexception Failure 0 of (string)"

// declares holds that a source declares this: types ahead of the built-in exceptions, exceptions behind them.
func declares(t *testing.T, s string, sorts, exns []string) {
	t.Helper()
	d, _, e, at := core.Resolve(parsed(t, s))
	want := strings.Join(append(append(sorts, builtInTold), exns...), "\n")
	if got := declsTold(d); e != api.OK || at != 0 || got != want {
		t.Errorf("%s: %d at %d\ngot\n%s\nwant\n%s", s, e, at, got, want)
	}
}

// P9.1: what is declared.

func TestDecls(t *testing.T) {
	declares(t, "", nil, nil)
	declares(t, "let x = 1", nil, nil)
	declares(t, "type t = A | B of int | C | D of t", []string{"type t | A 0 | B 0 of (int) | C 1 | D 1 of (t)"}, nil)
	declares(t, "type t = A of int | B of bool type u = C of unit | D type v = E",
		[]string{"type t | A 0 of (int) | B 1 of (bool)", "type u | C 0 of (unit) | D 0", "type v | E 0"}, nil)
	declares(t, "type r = {a : int; mutable b : r; c : string;} type q = {mutable d : exn}",
		[]string{"type r ; a (int) ; mutable b (r) ; c (string)", "type q ; mutable d (exn)"}, nil)
	declares(t, "exception A exception B of int let x = 1 exception C exception D of exn type t = E of t",
		[]string{"type t | E 0 of (t)"},
		[]string{"exception A 5", "exception B 1 of (int)", "exception C 6", "exception D 2 of (exn)"})
}

func TestTypesOfDecls(t *testing.T) {
	for written, want := range map[string]string{
		"int": "(int)", "t": "(t)", "u": "(u)",
		"int list": "(list (int))", "u ref": "(ref (u))", "int list array": "(array (list (int)))",
		"int -> t": "(-> (int) (t))", "int -> t -> u": "(-> (int) (-> (t) (u)))", "(int -> t) -> u": "(-> (-> (int) (t)) (u))",
		"int * t": "(* (int) (t))", "int * t * u": "(* (int) (t) (u))", "(int * t) * u": "(* (* (int) (t)) (u))",
		"(int * t) list -> u ref * exn": "(-> (list (* (int) (t))) (* (ref (u)) (exn)))",
	} {
		declares(t, "type u = U type t = A of "+written, []string{"type u | U 0", "type t | A 0 of " + want}, nil)
		declares(t, "type u = U type t = {a : "+written+"}", []string{"type u | U 0", "type t ; a " + want}, nil)
		declares(t, "type u = U type t = T exception A of "+written,
			[]string{"type u | U 0", "type t | T 0"}, []string{"exception A 1 of " + want})
	}
}

// Names of unlike kinds don't get in each other's way.
func TestNamesOfUnlikeKinds(t *testing.T) {
	declares(t, "type print_int = {print_int : int} type a = {a : a} exception A type b = B",
		[]string{"type print_int ; print_int (int)", "type a ; a (a)", "type b | B 0"}, []string{"exception A 5"})
	isCore(t, "type a = {a : a} let a = 1 let _ = a.a",
		"(Let@17 (Int@25 n1) (Match@27 (Get@36 sa (Var@35)) (Case@27 (QAny@31) (Con@0 s()))))")
}

// Each can be named behind its item, by the numbers that its item gives it.
func TestNumbersOfConstructors(t *testing.T) {
	ahead := "type t = A | B of int | C | D of int exception E exception F of int exception G type u = H | I of u "
	for written, want := range map[string]string{
		"A": "(Con@108 sA)", "B 1": "(Con@108 sB (Int@110 n1))", "C": "(Con@108 n1 sC)", "D 1": "(Con@108 n1 sD (Int@110 n1))",
		"E": "(Con@108 n5 sE)", "F 1": "(Con@108 n1 sF (Int@110 n1))", "G": "(Con@108 n6 sG)",
		"H": "(Con@108 sH)", "I 1": "(Con@108 sI (Int@110 n1))",
	} {
		isCore(t, ahead+"let _ = "+written, "(Match@100 "+want+" (Case@100 (QAny@104) (Con@0 s())))")
		pattern := strings.NewReplacer("Con@108", "QCon@104", "Int@110", "QInt@106").Replace(want)
		isCore(t, ahead+"let "+written+" = 0", "(Match@100 (Int@"+strconv.Itoa(107+len(written))+") (Case@100 "+pattern+" (Con@0 s())))")
	}
}

// short tells unlike names of two bytes that begin with a great letter.
func short(i int) string { return string(rune('A'+i%26)) + string(rune('a'+i/26)) }

// variant writes a type of as many constructors, each third one of something.
func variant(name string, many int) string {
	s := "type " + name + " = "
	for i := range many {
		if i > 0 {
			s += "|"
		}
		s += short(i)
		if i%3 == 0 {
			s += " of int"
		}
	}
	return s
}

// exceptions writes as many exceptions.
func exceptions(many int) string {
	s := ""
	for i := range many {
		s += "exception " + short(i) + " "
	}
	return s
}

func TestAsManyConstructorsAsMayBe(t *testing.T) {
	d, _, e, at := core.Resolve(parsed(t, variant("t", 200)))
	if e != api.OK || at != 0 || len(d.Sorts) != 1 || len(d.Sorts[0].Cons) != 200 {
		t.Fatalf("%d at %d", e, at)
	}
	if a, b := d.Sorts[0].Cons[198], d.Sorts[0].Cons[199]; a.N != 66 || len(a.Of) != 1 || b.N != 132 || len(b.Of) != 0 {
		t.Errorf("%v, %v", a, b)
	}
	isFault(t, variant("t", 201), api.ErrMany, 0)
	isFault(t, "let x = 1 "+variant("t", 201), api.ErrMany, 10)
	isFault(t, "type t = A0 "+variant("t", 201), api.ErrTwice, 12)
	isFault(t, "exception Aa "+variant("t", 201), api.ErrMany, 13)
	isFault(t, "exception Aa "+variant("t", 200), api.ErrTwice, 13+len("type t = "))
}

func TestAsManyExceptionsAsMayBe(t *testing.T) {
	d, _, e, at := core.Resolve(parsed(t, exceptions(194)))
	if e != api.OK || at != 0 || len(d.Exns) != 200 || d.Exns[199].N != 198 {
		t.Fatalf("%d at %d", e, at)
	}
	ahead := exceptions(194)
	isFault(t, exceptions(195), api.ErrMany, len(ahead))
	isFault(t, ahead+"exception Aa", api.ErrMany, len(ahead))
	isFault(t, ahead+"exception Zz of int", api.ErrMany, len(ahead))
	isFault(t, exceptions(193)+"exception Aa", api.ErrTwice, len(exceptions(193)))
	d, _, e, _ = core.Resolve(parsed(t, exceptions(193)+"exception Zz of int"))
	if e != api.OK || len(d.Exns) != 200 || d.Exns[199].N != 1 {
		t.Errorf("%d, %v", e, d.Exns)
	}
	d, _, e, _ = core.Resolve(parsed(t, ahead+"type t = A0 | B0"))
	if e != api.OK || len(d.Sorts) != 1 {
		t.Errorf("constructors count as exceptions: %d", e)
	}
}
