package model_test

import (
	"math"
	"strings"
	"testing"

	"grapnel/api"
	"grapnel/model"
)

// P12.1: each node that begins to be worked out takes 1; with 1 less the run is out of fuel. (takes counts the expression's alone.)
func TestFuelOfEachKind(t *testing.T) {
	for s, fuel := range map[string]int64{
		"1": 1, `"a"`: 1, "()": 1, "true": 1, "[]": 1, "A": 1, "print_int": 1, "[||]": 1, "fun x -> x 1 2 3": 1, "function 1 -> 2 | _ -> 3": 1,
		"B 1": 2, "1 :: []": 3, "[1; 2]": 5, "(1, 2)": 3, "[|1; 2; 3|]": 4, "{x = 1; y = A; z = 2}": 4, "Failure \"a\"": 2,
		"{x = 1; y = A; z = 2}.x": 5, "{x = 1; y = A; z = 2}.z <- 3": 6, "[|1|].(0)": 4, "[|1|].(0) <- 5": 5,
		"1 + 2": 3, "- 1": 2, "not true": 2, `"a" ^ "b"`: 3, "ref 1": 2, "!(ref 1)": 3, "ref 1 := 2": 4, "1 + 2 * 3": 5, "5 / 1": 3,
		"let x = 1 in x": 3, "let x = 1 in let y = x in x + y": 7, "let (x, y) = (1, 2) in x": 5, "let x = 1 and y = 2 in x": 5,
		"let rec f x = x in 1": 2, "let rec f x = x and g x = x and h x = x in f": 2, "let rec f x = x in f 1": 5,
		"if true then 1 else (2; 3)": 3, "if false then (2; 3) else 1": 3, "if true then ()": 3, "if false then print_int 1": 3, "true && false": 3, "false && (true && true)": 3, "true || (1; true)": 3, "false || true": 3,
		"1; 2": 3, "1; 2; 3": 5,
		"match 1 with x -> x": 3, "match 1 with 2 -> 3 | 4 | 5 -> 6 | (7 as x) -> x | _ -> 8": 3, "match 1 with x when x = 2 -> 3 | x when x = 1 -> 4 | _ -> 5": 2 + 3 + 1 + 3 + 1 + 1, "match 1 with _ when false -> 2 | _ -> 3": 4,
		"try 1 with _ -> (2; 3)": 2, "try raise N with N -> 1": 4, "try raise N with E _ -> 2 | N when true -> 1": 5, "try raise N with N when false -> 2 | _ -> 1": 5,
		"while false do 1 done": 2, "let r = ref 2 in while !r > 0 do r := !r - 1 done": 3 + 1 + 3*(4+1) + 2*6,
		"for i = 1 to 0 do 5 done": 3, "for i = 1 to 3 do i done": 6, "for i = 3 downto 3 do (i; i) done": 6,
		"print_int 1": 3, "(fun x -> x) 1": 4, "(fun x y -> x) 1 2": 5, "(fun x y -> x) 1": 3, "((fun x y -> x) 1) 2": 6, "(fun x -> fun y -> x) 1 2": 6, "(fun (x, y) -> x) (1, 2)": 5 + 3, "array_make 2 3": 4, "(array_make 2) 3": 5,
		"(fun x y z v -> x) 1 2": 4, "(function 1 -> 2 | _ -> 3) 5": 3 + 3,
		"string_of_int 5": 3, `int_of_string "5"`: 3, `string_length "abc"`: 3, `string_get "abc" 1`: 4, "array_length [||]": 3, "hash [1; 2]": 7,
		`try int_of_string "x" with Failure s -> 1`: 5, "try 1 / 0 with Division_by_zero -> 2": 5, "try [||].(5) with Invalid_argument -> 2": 5, "try (match 1 with 2 -> 3) with Match_failure -> 4": 4,
	} {
		takes(t, s, fuel)
	}
}

// What ends a run at a node takes that node's fuel alone.
func TestFuelOfEnds(t *testing.T) {
	for s, fuel := range map[string]int64{
		"": 1, "let x = 1": 3, "let _ = raise Not_found": 3, "let _ = exit 5": 4, "let _ = 1 / 0": 4, "let _ = match 1 with 2 -> 3": 3, "let _ = read_line ()": 4, "let rec f x = f": 2,
		"let _ = 1 2": 4, `let _ = 1 + "a"`: 4, "let _ = try raise Not_found with End_of_file -> 1": 4, "let f x = x let _ = f (f 1)": 11, "type t = A let x = A": 3,
	} {
		isNeeded(t, s, fuel)
	}
}

func TestFuelExample(t *testing.T) {
	s := "let _ = print_int 1; print_int 2"
	for fuel, want := range []model.Ending{5: {Kind: model.OutOfFuel, Out: "1"}, 6: {Kind: model.OutOfFuel, Out: "1"}, 7: {Kind: model.OutOfFuel, Out: "1"}, 8: {Kind: model.OutOfFuel, Out: "12"}, 9: done("12"), 10: done("12")} {
		if fuel < 5 {
			want = model.Ending{Kind: model.OutOfFuel}
		}
		if got := run(t, s, int64(fuel)); got != want {
			t.Errorf("with %d: got %+v, want %+v", fuel, got, want)
		}
	}
}

// Of no fuel, or less, nothing is done.
func TestNoFuel(t *testing.T) {
	for _, s := range []string{"", "let x = 1", "let _ = exit 3", "let _ = print_int 1", "let _ = 1 2"} {
		for _, fuel := range []int64{0, -1, -99, math.MinInt64} {
			if got := run(t, s, fuel, "a"); got != (model.Ending{Kind: model.OutOfFuel}) {
				t.Errorf("%s: with %d got %+v", s, fuel, got)
			}
		}
		if got := run(t, s, math.MaxInt64); got.Kind == model.OutOfFuel {
			t.Errorf("%s: got %+v", s, got)
		}
	}
}

// A run without an end is out of fuel, however much there was, and has written and read what it could.
func TestOutOfFuel(t *testing.T) {
	for _, s := range []string{
		"let rec f x = f x let _ = f 1", "let rec f x = 1 + f x let _ = f 1", "let _ = while true do () done", "let rec f x = g x and g x = f x; 1 let _ = f 1",
		"let rec f x = try f x with _ -> f x let _ = f 1", "let rec f l = f (1 :: l) let _ = f []", "let rec f x = f let rec g h = g (h 1) let _ = g f",
		"let _ = let r = ref (fun x -> x) in r := (fun x -> !r x); !r 1", "let rec f s = f (s ^ \"\") let _ = f \"a\"", "let rec f a = f (array_make 4096 a) let _ = f [||]",
	} {
		for _, fuel := range []int64{1, 10, 1000, 20000} {
			if got := run(t, s, fuel); got != (model.Ending{Kind: model.OutOfFuel}) {
				t.Errorf("%s: with %d got %+v", s, fuel, got)
			}
		}
	}
	s := "let rec f u = print_string (read_line ()); f () let _ = try f () with End_of_file -> while true do print_int 1 done"
	got := run(t, s, 1000, "a", "b")
	if got.Kind != model.OutOfFuel || got.Read != 2 || !strings.HasPrefix(got.Out, "ab111") || strings.Trim(got.Out, "1") != "ab" {
		t.Errorf("%+v", got)
	}
}

// R1: a million calls that wait, and endings that come of great fuel, within some hundred megabytes.
func TestGreatFuel(t *testing.T) {
	for _, s := range []string{
		"let rec f x = 1 + f x let _ = f 1", "let _ = for i = 1 to 4611686018427387903 do () done", "let rec f n = f (n + 1) let _ = f 1",
		"let rec f n k = f (n + 1) (fun x -> n) let _ = f 1 (fun x -> x)",
	} {
		if got := run(t, s, 4000000); got != (model.Ending{Kind: model.OutOfFuel}) {
			t.Errorf("%s: got %+v", s, got)
		}
	}
}

// nested tells a core of so many nodes within each other.
func nested(many int, within func(c api.Core) api.Core) api.Core {
	c := whole(7)
	for range many {
		c = within(c)
	}
	return c
}

// R1: cores of many nodes within each other, and of parts that are there many times over.
func TestGreatCores(t *testing.T) {
	const many = 1 << 16
	fun := func(c api.Core) api.Core { return api.Core{Kind: api.KFun, N: 1, L: []api.Core{c}} }
	for name, within := range map[string]func(c api.Core) api.Core{
		"neg":  func(c api.Core) api.Core { return op(api.OpNeg, c) },
		"seq":  func(c api.Core) api.Core { return api.Core{Kind: api.KSeq, L: []api.Core{c, whole(1)}} },
		"list": func(c api.Core) api.Core { return api.Core{Kind: api.KCon, S: "::", L: []api.Core{whole(1), c}} },
		"let":  func(c api.Core) api.Core { return api.Core{Kind: api.KLet, V: 5, L: []api.Core{whole(1), c}} },
		"app":  func(c api.Core) api.Core { return api.Core{Kind: api.KApp, L: []api.Core{fun(c), whole(1)}} },
		"try":  func(c api.Core) api.Core { return api.Core{Kind: api.KTry, L: []api.Core{c}} },
		"fun":  fun,
	} {
		if got := model.Run(api.Decls{}, nested(many, within), nil, 1<<30); got != done("") {
			t.Errorf("%s: got %+v", name, got)
		}
	}
	q := api.Core{Kind: api.QAny}
	v := whole(1)
	for range many {
		q = api.Core{Kind: api.QCon, L: []api.Core{q}}
		v = api.Core{Kind: api.KTuple, L: []api.Core{v}}
	}
	c := api.Core{Kind: api.KMatch, L: []api.Core{v, {Kind: api.KCase, L: []api.Core{q, printed(whole(3))}}}}
	if got := model.Run(api.Decls{}, c, nil, 1<<30); got != done("3") {
		t.Errorf("patterns: got %+v", got)
	}
	twice := nested(200, func(c api.Core) api.Core {
		return api.Core{Kind: api.KSeq, L: []api.Core{printed(whole(1)), op(api.OpAdd, c, c)}}
	})
	if got := model.Run(api.Decls{}, twice, nil, 900); got.Kind != model.OutOfFuel || !strings.HasPrefix(got.Out, strings.Repeat("1", 170)) {
		t.Errorf("twice: got %+v", got)
	}
}
