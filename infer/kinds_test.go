package infer_test

import (
	"testing"

	"grapnel/api"
	"grapnel/core"
	"grapnel/infer"
	"grapnel/types"
)

func TestExamples(t *testing.T) {
	isType(t, "fun f x -> f (f x)", "(('1 -> '1) -> ('1 -> '1))")
	isFault(t, "fun x -> x @x", api.ErrOccurs)
	isType(t, "let id = fun x -> x in id id", "('1 -> '1)")
	isFault(t, "let r = ref [] in r := [1]; r := @[true]", api.ErrType)
	isType(t, "let f = fun x -> (x, x) in f", "('1 -> ('1 * '1))")
	isFault(t, "try 1 with Failure s -> @s", api.ErrType)
}

// P11.1: the type of each kind of core.
func TestKinds(t *testing.T) {
	for s, want := range map[string]string{
		"1": "int", "-1": "int", `"a"`: "string", // KInt, KText
		"fun x -> x":     "('1 -> '1)", // KVar, KFun
		"fun x y z -> y": "('1 -> ('2 -> ('3 -> '2)))", "fun _ -> 1": "('1 -> int)", "fun (x, _) -> x": "(('1 * '2) -> '1)",
		"fun x -> fun y -> x": "('1 -> ('2 -> '1))", "fun () -> ()": "(unit -> unit)",
		"(1, true)": "(int * bool)", `(1, (true, "a"), ())`: "(int * (bool * string) * unit)", // KTuple
		"[||]": "('1 array)", "[|1; 2|]": "(int array)", "[|[]; [1]|]": "((int list) array)", // KArray
		"fun a -> a.(0)": "(('1 array) -> '1)", "[|1|].(0)": "int", "fun a i -> a.(i)": "(('1 array) -> (int -> '1))", // KAt
		"fun a i x -> a.(i) <- x": "(('1 array) -> (int -> ('1 -> unit)))", "[|1|].(0) <- 1": "unit", // KPut
		"print_int 1": "unit", "fun f -> f 1 true": "((int -> (bool -> '1)) -> '1)", // KApp
		"fun f x y -> f y x": "(('1 -> ('2 -> '3)) -> ('2 -> ('1 -> '3)))", "(fun x -> (fun y -> x)) 1": "('1 -> int)",
		"let x = 1 in x": "int", "let x = 1 in true": "bool", // KLet
		"let rec f x = f x in f": "('1 -> '2)", "let rec f x = if x = 0 then 0 else f (x - 1) in f 3": "int", // KRec
		"let rec f = function 0 -> true | n -> f (n - 1) in f": "(int -> bool)",
		"if true then 1 else 2":                                "int", "if true then ()": "unit", "fun x -> if x then []  else [x]": "(bool -> (bool list))", // KIf
		"fun x y -> x && y || not x":          "(bool -> (bool -> bool))",
		"match 1 with 0 -> true | _ -> false": "bool", "fun x -> match x with (a, 1) -> a": "(('1 * int) -> '1)", // KMatch
		"match 1 with _ -> []": "('1 list)", "match 1 with _ -> [] | 2 -> [1]": "(int list)",
		"try 1 with _ -> 2": "int", "try [] with N -> [1] | _ -> []": "(int list)", "fun x -> try raise x with y -> y": "(exn -> exn)", // KTry
		"raise N": "'1", "fun x -> raise x": "(exn -> '1)", "fun x -> if x then raise N else x": "(bool -> bool)", // KRaise
		"while true do 1 done": "unit", "fun x -> while x do x done": "(bool -> unit)", // KWhile
		"for i = 1 to 2 do i done": "unit", "fun f a b -> for i = a downto b do f i done": "((int -> '1) -> (int -> (int -> unit)))", // KFor
		"1; true": "bool", "(); []; 1": "int", "fun x -> x; x": "('1 -> '1)", // KSeq
	} {
		isType(t, s, want)
	}
}

// P11.1: the built-in constructors, those that are declared, without parts and with some, and exceptions.
func TestConstructors(t *testing.T) {
	for s, want := range map[string]string{
		"()": "unit", "true": "bool", "false": "bool", "[]": "('1 list)", "[1]": "(int list)", "1 :: []": "(int list)",
		"fun x y -> x :: y": "('1 -> (('1 list) -> ('1 list)))", "[[]; [1]]": "((int list) list)", "[] :: []": "(('1 list) list)", "[] :: [] :: [[1]]": "((int list) list)",
		"A": "t", "D": "t", "B 1": "t", "fun x -> B x": "(int -> t)", "C (A, (fun _ -> true))": "t", "fun x y -> C (x, y)": "(t -> ((int -> bool) -> t))", "fun p -> C p": "((t * (int -> bool)) -> t)",
		"N": "exn", `E "a"`: "exn", "fun x -> E x": "(string -> exn)", "fun x y -> P (x, y)": "(int -> (r -> exn))",
		"Match_failure": "exn", "Division_by_zero": "exn", "Invalid_argument": "exn", "End_of_file": "exn", "Not_found": "exn", `Failure "a"`: "exn", "fun x -> Failure x": "(string -> exn)",
	} {
		isType(t, s, want)
	}
}

// P11.1: records, and their labels, taken and set.
func TestRecords(t *testing.T) {
	for s, want := range map[string]string{
		"{x = 1; y = A}": "r", "{y = A; x = 1}": "r", "fun a b -> {y = a; x = b}": "(t -> (int -> r))",
		"fun a b -> {z = a; w = b}": "((s list) -> ((r -> (string ref)) -> s))",
		"fun a -> a.x":              "(r -> int)", "fun a -> a.y": "(r -> t)", "fun a -> a.z": "(s -> (s list))", "fun a -> a.w": "(s -> (r -> (string ref)))",
		"fun a b -> a.y <- b": "(r -> (t -> unit))", "fun a b -> a.z <- b": "(s -> ((s list) -> unit))", "fun a -> a.z <- [a]; a": "(s -> s)",
	} {
		isType(t, s, want)
	}
}

// P11.1: the type of each built-in function.
func TestBuiltins(t *testing.T) {
	for i, want := range []string{
		"(int -> unit)", "(string -> unit)", "(unit -> string)", "(int -> '1)", "(int -> string)", "(string -> int)", "(string -> int)",
		"(string -> (int -> int))", "(int -> ('1 -> ('1 array)))", "(('1 array) -> int)", "('1 -> ('1 -> int))", "('1 -> int)",
	} {
		isType(t, core.Builtins()[i], want)
		got, e, at := infer.Infer(api.Decls{}, api.Core{Kind: api.KBuiltin, At: 7, N: int64(i + 1)})
		if types.Text(got) != want || e != api.OK || at != 0 {
			t.Errorf("built-in %d: %s, %d at %d", i+1, types.Text(got), e, at)
		}
	}
}

// P11.1: what is new in a built-in function's type is so each time.
func TestBuiltinsAnew(t *testing.T) {
	isType(t, "(exit 1, exit 2)", "('1 * '2)")
	isType(t, `(compare 1 2, compare "a" "b", hash 1, hash "a", array_length [|1|], array_length [|true|])`, "(int * int * int * int * int * int)")
	isType(t, `(array_make 1 2, array_make 1 "a", array_make 1)`, "((int array) * (string array) * ('1 -> ('1 array)))")
}

// P11.1: the type of each operation that a source has.
func TestOperations(t *testing.T) {
	for s, want := range map[string]string{
		"fun x y -> x + y": "(int -> (int -> int))", "fun x y -> x - y": "(int -> (int -> int))", "fun x y -> x * y": "(int -> (int -> int))",
		"fun x y -> x / y": "(int -> (int -> int))", "fun x y -> x mod y": "(int -> (int -> int))",
		"fun x -> - x": "(int -> int)", "fun x -> not x": "(bool -> bool)", "fun x y -> x ^ y": "(string -> (string -> string))",
		"fun x y -> x = y": "('1 -> ('1 -> bool))", "fun x y -> x <> y": "('1 -> ('1 -> bool))", "fun x y -> x < y": "('1 -> ('1 -> bool))",
		"fun x y -> x > y": "('1 -> ('1 -> bool))", "fun x y -> x <= y": "('1 -> ('1 -> bool))", "fun x y -> x >= y": "('1 -> ('1 -> bool))",
		"fun x -> ref x": "('1 -> ('1 ref))", "ref 1": "(int ref)", "fun x -> !x": "(('1 ref) -> '1)", "!(ref 1)": "int",
		"fun x y -> x := y": "(('1 ref) -> ('1 -> unit))", "ref [] := [1]": "unit", "1 < 2": "bool", "(1 = 2, true = false, [1] <> [])": "(bool * bool * bool)",
	} {
		isType(t, s, want)
	}
}

// P11.1: the type of each operation, by its number; those that no source has too.
func TestOperationsByNumber(t *testing.T) {
	number, text, truth := api.Core{Kind: api.KInt, At: 1}, api.Core{Kind: api.KText, At: 2}, api.Core{Kind: api.KCon, S: "true", At: 3}
	cell := api.Core{Kind: api.KOp, N: api.OpRef, L: []api.Core{text}, At: 4}
	for op := int64(-1); op <= api.OpAssign+2; op++ {
		l, want := []api.Core{text, text}, "bool"
		switch {
		case op >= api.OpAdd && op <= api.OpShr:
			l, want = []api.Core{number, number}, "int"
		case op == api.OpLess:
			l = []api.Core{number, number}
		case op == api.OpNeg:
			l, want = []api.Core{number}, "int"
		case op == api.OpNot:
			l = []api.Core{truth}
		case op >= api.OpEq && op <= api.OpGe:
		case op == api.OpCat:
			want = "string"
		case op == api.OpRef:
			l, want = []api.Core{text}, "(string ref)"
		case op == api.OpDeref:
			l, want = []api.Core{cell}, "string"
		case op == api.OpAssign:
			l, want = []api.Core{cell, text}, "unit"
		default:
			want = ""
		}
		isOperation(t, op, l, want)
	}
}

// isOperation holds that an operation of these has this type (none: there is no such operation), and that each of them must be what it is.
func isOperation(t *testing.T, op int64, l []api.Core, want string) {
	t.Helper()
	c := api.Core{Kind: api.KOp, N: op, L: l, At: 9}
	got, e, at := infer.Infer(api.Decls{}, c)
	if want == "" {
		if e != api.ErrForm || at != 9 {
			t.Errorf("operation %d: %s, %d at %d", op, types.Text(got), e, at)
		}
		return
	}
	if types.Text(got) != want || e != api.OK || at != 0 {
		t.Errorf("operation %d: %s, %d at %d, want %s", op, types.Text(got), e, at, want)
	}
	for i := range l {
		if i == 0 && op >= api.OpEq && op <= api.OpGe || op == api.OpRef {
			continue // of anything
		}
		other := append([]api.Core(nil), l...)
		other[i] = api.Core{Kind: api.KCon, S: "()", At: 20 + i}
		c.L = other
		if got, e, at := infer.Infer(api.Decls{}, c); e != api.ErrType || at != 20+i {
			t.Errorf("operation %d, part %d: %s, %d at %d", op, i, types.Text(got), e, at)
		}
	}
}

// P11.1: the type of each kind of pattern, and of what it binds.
func TestPatterns(t *testing.T) {
	for s, want := range map[string]string{
		"function _ -> 1": "('1 -> int)", "function x -> x": "('1 -> '1)", "function 1 -> 2": "(int -> int)", "function -1 -> 2": "(int -> int)", `function "a" -> 1`: "(string -> int)",
		"function () -> 1": "(unit -> int)", "function true -> 1": "(bool -> int)", "function false -> 1": "(bool -> int)",
		"function [] -> 1": "(('1 list) -> int)", "function x :: y -> (x, y)": "(('1 list) -> ('1 * ('1 list)))", "function [x; 1] -> x": "((int list) -> int)",
		"function A -> 1": "(t -> int)", "function B x -> x": "(t -> int)", "function C (x, y) -> (x, y)": "(t -> (t * (int -> bool)))", "function C p -> p": "(t -> (t * (int -> bool)))",
		"function N -> 1": "(exn -> int)", "function E x -> x": "(exn -> string)", "function P (x, y) -> (y, x)": "(exn -> (r * int))", "function Failure x -> x": "(exn -> string)", "function Not_found -> 1": "(exn -> int)",
		"function (x, y) -> (y, x)": "(('1 * '2) -> ('2 * '1))", "function (x, _, 1) -> x": "(('1 * '2 * int) -> '1)",
		"function {x = a} -> a": "(r -> int)", "function {y = a; x = b} -> (a, b)": "(r -> (t * int))", "function {w = a} -> a": "(s -> (r -> (string ref)))",
		"function (1 | 2) -> 3": "(int -> int)", "function ([] | [_]) -> 3": "(('1 list) -> int)", "function (x, 1) | (1, x) -> x": "((int * int) -> int)", "function (x, y) | (y, x) -> (x, y)": "(('1 * '1) -> ('1 * '1))",
		"function ([x] | [_; x]) -> x": "(('1 list) -> '1)", "function _ as x -> x": "('1 -> '1)", "function (x, 1) as p -> (p, x)": "(('1 * int) -> (('1 * int) * '1))", "function (_ as x) :: _ as y -> (x, y)": "(('1 list) -> ('1 * ('1 list)))",
		"function ((1 as x) | x) -> x": "(int -> int)", "function ((A as x), _) | (_, x) -> x": "((t * t) -> t)",
	} {
		isType(t, s, want)
	}
}

// P11.1: a let's patterns, a function's, guards, and several lets at once.
func TestBinding(t *testing.T) {
	for s, want := range map[string]string{
		"let (x, y) = (1, true) in (y, x)": "(bool * int)", "let [x] = [[]] in x": "('1 list)", "let x = 1 and y = true in (y, x)": "(bool * int)", "let _ = 1 in 2": "int",
		"fun (x, y) {x = z} [w] -> (x, y, z, w)": "(('1 * '2) -> (r -> (('3 list) -> ('1 * '2 * int * '3))))",
		"function x when x -> 1 | _ -> 2":        "(bool -> int)", "match 1 with x when x > 0 -> [x] | _ when true -> []": "(int list)",
		"try 1 with E x when x = \"a\" -> 2 | _ when false -> 3": "int", "fun f -> match f 1 with x when x -> 2": "((int -> bool) -> int)",
	} {
		isType(t, s, want)
	}
}

// P11.1: the variables of the type that is told are 1, 2 and so on, from the left.
func TestNumbering(t *testing.T) {
	for s, want := range map[string]string{
		"fun x y -> (y, x)": "('1 -> ('2 -> ('2 * '1)))", "fun a b c d -> (c, a)": "('1 -> ('2 -> ('3 -> ('4 -> ('3 * '1)))))",
		"(fun x -> fun y -> fun z -> z) 1": "('1 -> ('2 -> '2))", "raise N": "'1", "raise N; raise N; raise N": "'1",
		"let f = fun x y -> y in let g = f 1 in (f, f)": "(('1 -> ('2 -> '2)) * ('3 -> ('4 -> '4)))", "([], ref [], [||])": "(('1 list) * (('2 list) ref) * ('3 array))",
		"fun f g x -> g (f x)": "(('1 -> '2) -> (('2 -> '3) -> ('1 -> '3)))",
	} {
		isType(t, s, want)
	}
}

// P11.1: a whole program comes to the unit, since that stands at its end.
func TestPrograms(t *testing.T) {
	for _, s := range []string{"", "let x = 1", "type t = A exception E of t let f x = E x let rec g y = f y; g y let _ = raise (f A)", "let f x = x let _ = (f 1, f true) let (a, b) = f (1, 2) and c = f 3"} {
		d, c := resolved(t, s)
		got, e, at := infer.Infer(d, c)
		if types.Text(got) != "unit" || e != api.OK || at != 0 {
			t.Errorf("%s: %s, %d at %d", s, types.Text(got), e, at)
		}
	}
	for s, place := range map[string]int{"let f x = x + 1 let _ = f true": 26, "let x = 1 let y = x ()": 20, "let r = ref [] let _ = r := [1] let _ = r := [true]": 45, "let rec f x = x + 1 and g y = f (y ^ \"\")": 35} {
		d, c := resolved(t, s)
		if got, e, at := infer.Infer(d, c); got.S != "" || e != api.ErrType || at != place {
			t.Errorf("%s: %s, %d at %d", s, types.Text(got), e, at)
		}
	}
}
