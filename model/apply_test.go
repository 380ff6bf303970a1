package model_test

import (
	"strings"
	"testing"

	"grapnel/model"
)

// P12.1: a function of n parameters with fewer, just as many and more arguments.
func TestAsManyArguments(t *testing.T) {
	f := "let f x y z = print_string \".\"; 100 * x + 10 * y + z in "
	number(t, f+"f 1 2 3", ".123")
	number(t, f+"(f 1) 2 3", ".123")
	number(t, f+"(f 1 2) 3", ".123")
	number(t, f+"((f 1) 2) 3", ".123")
	number(t, f+"let g = f 1 in let h = g 2 in let k = g 3 in h 4 + k 5 + g 6 7", "...426")
	prints(t, f+"f; f 1; f 1 2; (f 1) 2; print_int 5", "5")
	number(t, "(fun x -> fun y -> fun z -> 100 * x + 10 * y + z) 1 2 3", "123")
	number(t, "(fun x y -> fun z -> 100 * x + 10 * y + z) 1 2 3", "123")
	number(t, "(fun x -> fun y z -> 100 * x + 10 * y + z) 1 2 3", "123")
	number(t, "(fun x y -> fun z v w -> x + 10 * y + 100 * z + 1000 * v + 10000 * w) 1 2 3 4 5", "54321")
	number(t, "let g = (fun x y -> fun z v w -> x + 10 * y + 100 * z + 1000 * v + 10000 * w) in let h = g 1 in let k = h 2 3 in k 4 5", "54321")
	shows(t, "let id x = x let _ = print_int (id id id id id 4)", "4")
}

// With more than n arguments it is applied to the first n ahead of the others, and what it raises or writes comes at that place.
func TestMoreArguments(t *testing.T) {
	prints(t, "(fun x -> print_int x; fun y -> print_int y; fun z -> print_int z) 1 2 3", "123")
	prints(t, "(fun x -> print_int x; fun y -> print_int y; fun z -> print_int z) (print_int 4; 1) (print_int 5; 2) (print_int 6; 3)", "654123")
	raises(t, "(fun x -> if x = 1 then raise N else fun y -> y) 1 (print_int 2)", "N", "2")
	prints(t, "try (fun x -> if x = 1 then raise N else fun y -> y) 1 (print_int 2) with N -> print_int 3", "23")
	comes(t, "let _ = (fun x -> exit x) 7 (print_int 2)", model.Ending{Kind: model.Ended, Code: 7, Out: "2"})
}

// Pieces of functions keep what they have apart from each other.
func TestPieces(t *testing.T) {
	number(t, "let f x y z = 100 * x + 10 * y + z in let a = f 1 in let b = a 2 in let c = a 3 in let d = b 4 in let e = b 5 in d + e + c 6", "385")
	number(t, "let f r x y = r := !r + x; !r * 10 + y in let g = f (ref 0) in let h = f (ref 100) in let p = g 1 in p 1 + p 2 + h 1 1", "1044")
	number(t, "let rec m f l = match l with [] -> 0 | x :: k -> f x + 100 * m f k in m ((fun x y z -> x + y + z) 1 2) [3; 4]", "706")
}

// A built-in function has as many parameters as its type has arrows; its pieces are functions.
func TestPiecesOfBuiltIns(t *testing.T) {
	number(t, "let c = compare 2 in 100 * c 1 + 10 * c 2 + c 3 + 5", "104")
	number(t, "let g = string_get \"abc\" in g 0 + g 2", "196")
	number(t, "let m = array_make 3 in array_length (m 1) * 10 + (m 7).(2)", "37")
	prints(t, "compare; compare 1; string_get \"\"; array_make (-1); print_int; print_int 5", "5")
	raises(t, "let m = array_make (-1) in print_int 1; m 0", "Invalid_argument", "1")
	raises(t, "let g = string_get \"\" in print_int 1; g 0", "Invalid_argument", "1")
	raises(t, "let c = compare compare in print_int 1; c compare", "Invalid_argument", "1")
	number(t, "let p = print_int in p 1; p 2; 3", "123")
	number(t, "let l = [compare 1; compare 2; compare 3] in match l with [a; b; c] -> 100 * a 2 + 10 * b 2 + c 2", "-99")
	number(t, "let f = (fun x -> compare) in f 1 2 3", "-1")
	number(t, "(fun f -> f 1 2) compare", "-1")
}

// What is no function isn't applied, and that is told behind the arguments.
func TestNoFunctions(t *testing.T) {
	for _, s := range []string{"1", `"a"`, "()", "(1, 2)", "[]", "[1]", "(ref 1)", "true", "(Not_found)", "(Failure \"a\")"} {
		comes(t, "let _ = "+s+" (print_int 7)", wrong("7"))
		comes(t, "let _ = (fun x -> "+s+") (print_int 8) (print_int 7)", wrong("78"))
	}
	comes(t, "let _ = print_int 1 2", wrong("1"))
	comes(t, "let _ = compare 1 2 3", wrong(""))
	comes(t, "let _ = string_length \"\" (print_int 2)", wrong("2"))
	comes(t, "let _ = exit 3 4", model.Ending{Kind: model.Ended, Code: 3})
	comes(t, "let _ = read_line () 4", uncaught("End_of_file", ""))
}

// A function of many parameters, one argument at a time, in pieces, and all at once.
func TestManyParameters(t *testing.T) {
	f, sum, one, ten := "let f", "0", "f", "f"
	for i := range 100 {
		name := "x" + string(rune('a'+i/26)) + string(rune('a'+i%26))
		f += " " + name
		sum += " + " + name
		one = "(" + one + " 2)"
		if i%10 == 0 {
			ten = "(" + ten + strings.Repeat(" 2", 10) + ")"
		}
	}
	f += " = " + sum + " in "
	for _, s := range []string{one, ten, "f" + strings.Repeat(" 2", 100), "(f" + strings.Repeat(" 2", 99) + ") 2"} {
		number(t, f+s, "200")
	}
}

// P12.1: a call that stands last leaves nothing waiting, and what waits is as deep as may be: within R1's bounds, some hundred megabytes.
func TestDeepCalls(t *testing.T) {
	const fuel = 1 << 40
	for s, want := range map[string]model.Ending{
		"let rec f n = if n = 0 then 0 else 1 + f (n - 1) let _ = print_int (f 300000)":                                                                                                   done("300000"),
		"let rec f n = if n = 0 then 0 else f (n - 1) let _ = print_int (f 1000000)":                                                                                                      done("0"),
		"let rec f n l = if n = 0 then l else f (n - 1) (n :: l) let rec g l = match l with [] -> 0 | x :: k -> x + g k let _ = print_int (g (f 100000 []))":                              done("5000050000"),
		"let rec f n = if n = 0 then raise Not_found else try f (n - 1) with End_of_file -> 1 let _ = f 300000":                                                                           uncaught("Not_found", ""),
		"let rec f n = if n = 0 then raise Not_found else try f (n - 1) with Not_found -> raise Not_found let _ = f 300000":                                                               uncaught("Not_found", ""),
		"let rec f n = try if n = 0 then raise Not_found else raise End_of_file with End_of_file -> f (n - 1) let _ = f 1000000":                                                          uncaught("Not_found", ""),
		"let rec f n = match n with 0 when true -> 5 | _ when (n; true) -> f (n - 1) | _ -> 1 let _ = print_int (f 300000)":                                                               done("5"),
		"let rec f n = if n = 0 then 0 else (f (n - 1); 0) let _ = f 300000":                                                                                                              done(""),
		"let rec f n k = if n = 0 then k 0 else f (n - 1) (fun x -> k (x + 1)) let _ = print_int (f 100000 (fun x -> x))":                                                                 done("100000"),
		"let rec f n = if n = 0 then (fun x -> x) else (fun x -> f (n - 1) (x + 1)) let _ = print_int (f 300000 0)":                                                                       done("300000"),
		"let rec f n x = if n = 0 then f else f (n - 1) let _ = f 5 1 2 3 4 5 6":                                                                                                          done(""),
		"let rec l n k = if n = 0 then k else l (n - 1) (n :: k) let _ = print_int (compare (l 100000 [1]) (l 100000 [2]))":                                                               done("-1"),
		"let rec l n k = if n = 0 then k else l (n - 1) (ref k) let rec p n k = if n = 0 then k else p (n - 1) [k] let _ = if p 100000 [] < p 99999 [] then print_int 1 else print_int 2": done("2"),
	} {
		d, c := resolved(t, s)
		if got := model.Run(d, c, nil, fuel); got != want {
			t.Errorf("%s: got %+v, want %+v", s, got, want)
		}
	}
}
