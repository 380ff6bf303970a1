package lower_test

import (
	"strings"
	"testing"

	"grapnel/api"
	"grapnel/lower"
)

// P14.2: each kind of a core's node that isn't a choice by patterns.
func TestEachKind(t *testing.T) {
	number(t, "- 7", "-7")
	number(t, "string_length (\"ab\" ^ \"c\")", "3")
	prints(t, "()", "")
	number(t, "if true then 1 else 2", "1")
	number(t, "if false then 1 else 2", "2")
	prints(t, "if 1 > 2 then print_int 1", "")
	number(t, "let x = 1 in let y = x + 1 in let x = y + 5 in x + y", "9")
	number(t, "(let x = 1 in x) + (let y = 20 in let x = 3 in x + y)", "24")
	number(t, "let x = 1 in (let x = 2 in x * 10) + x", "21")
	number(t, "{x = 7; y = D; z = 8}.x + {z = 7; y = D; x = 8}.z", "14")
	prints(t, "let a = {x = 1; y = D; z = 8} in a.z <- 5; a.y <- B a.z; print_int a.x; match a.y with B n -> print_int n | _ -> ()", "15")
	prints(t, "let a = [|5; 6; 7|] in a.(2) <- 1; a.(0) <- 2; print_int a.(0); print_int a.(1); print_int a.(2); print_int (array_length [||])", "2610")
	for _, i := range []string{"-1", "3", "4611686018427387903"} {
		raises(t, "[|5; 6; 7|].("+i+")", "Invalid_argument", "")
		raises(t, "[|5; 6; 7|].("+i+") <- (print_int 1; 2)", "Invalid_argument", "1")
	}
	raises(t, "[||].(0)", "Invalid_argument", "")
	prints(t, "let r = ref 1 in while !r < 100 do print_int !r; r := !r * 3 done", "1392781")
	prints(t, "while false do print_int 1 done", "")
	prints(t, "for i = 3 downto 1 do print_int i done; for i = -1 to 2 do print_int i done; for i = 2 to 1 do print_int i done; for i = 1 downto 2 do print_int i done", "321-1012")
	prints(t, "for i = 1 to 2 do for j = i downto 0 do print_int j done done", "10210")
	prints(t, "print_int 1; print_int 2; print_int 3", "123")
	raises(t, "raise (E \"x\")", "E", "")
	raises(t, "raise N; print_int 1", "N", "")
	raises(t, "Failure (raise N)", "N", "")
	raises(t, "raise (Failure \"x\")", "Failure", "")
	number(t, "hash (C (A, B 3), [1; 2], \"ab\", N, {x = 1; y = D; z = 2}, [|1|], ref 2, E \"a\") - hash (C (A, B 3), [1; 2], \"ab\", N, {x = 1; y = D; z = 2}, [|1|], ref 2, E \"a\")", "0")
	number(t, "hash (B 1) - hash A", "6542") // (31 * 7 + 1) * 31 + 1, and 31 * 7
	comes(t, "let x = 1 let x = x + 1 and y = x let _ = print_int x; print_int y", done("21"))
	comes(t, "let x = 1 let f y = x + y let x = 100 let _ = print_int (f 2); print_int x", done("3100"))
	comes(t, "", done(""))
}

// Each operation, also where it raises.
func TestEachOperation(t *testing.T) {
	for s, want := range map[string]string{
		"7 + 2": "9", "7 - 2": "5", "7 * -2": "-14", "7 / -2": "-3", "7 mod -2": "1", "- (- 3)": "3",
		"4611686018427387903 + 1": "-4611686018427387904", "!(ref 3)": "3",
	} {
		number(t, s, want)
	}
	for s, want := range map[string]bool{
		"1 = 1": true, "1 <> 1": false, "1 < 2": true, "2 > 3": false, "2 <= 2": true, "2 >= 3": false, "not true": false, "not false": true,
		"true && false": false, "true && true": true, "false || true": true, "false || false": false,
		"\"a\" < \"b\"": true, "[1; 2] < [1; 3]": true, "B 3 < C (A, A)": true, "(1, \"a\") = (1, \"a\")": true, "A = D": false, "E \"a\" = E \"b\"": false, "ref 1 = ref 1": true,
	} {
		number(t, "if "+s+" then 1 else 0", map[bool]string{true: "1", false: "0"}[want])
	}
	raises(t, "1 / 0", "Division_by_zero", "")
	raises(t, "print_int (1 mod 0)", "Division_by_zero", "")
	raises(t, "(fun x -> x) = (fun x -> x)", "Invalid_argument", "")
	raises(t, "compare < compare", "Invalid_argument", "")
	prints(t, "let r = ref 1 in r := 5; r := !r + 2; print_int !r", "7")
	raises(t, "let rec f s n = if n = 0 then s else f (s ^ s) (n - 1) in f \"a\" 13", "Invalid_argument", "")
}

// Parts are worked out from the right; where something is chosen, as it comes to be needed.
func TestFromTheRight(t *testing.T) {
	says := "let a n = print_int n; n let s n = print_int n; \"s\" let u n = print_int n; A let r n = print_int n; {x = n; y = A; z = n} let o n = print_int n; ref 1 let b n = print_int n; true " +
		"let n n = print_int n; false let f n = print_int n; fun x y z -> () let j n = print_int n; [|1; 2; 3; 4; 5|] "
	for s, want := range map[string]string{
		"(a 1, a 2, a 3)": "321", "[a 1; a 2; a 3]": "321", "[|a 1; a 2; a 3|]": "321", "C (u 1, u 2)": "21", "P (a 1, u 2)": "21",
		"{x = a 1; y = u 2; z = a 3}": "321", "{z = a 1; x = a 2; y = u 3}": "132", "(r 1).y <- u 2": "21", "(j 1).(a 2)": "21", "(j 1).(a 2) <- a 3": "321",
		"(f 1) (a 2) (a 3) (a 4)": "4321", "(f 1) (a 2) (a 3)": "321", "(f 1) (a 2)": "21", "a 1 + a 2 + a 3": "321", "a 1 <= a 2": "21", "s 1 ^ s 2 ^ s 3": "321", "o 1 := a 2": "21",
		"compare (a 1) (a 2)": "21", "string_get (s 1) (a 0)": "01", "array_make (a 1) (a 2)": "21", "for i = a 1 to a 0 do () done": "01",
		"if b 1 then a 2 else a 3": "12", "if n 1 then a 2 else a 3": "13", "b 1 && n 2 && b 3": "12", "n 1 || b 2 || n 3": "12",
		"a 1; a 2; a 3": "123", "let x = a 1 in let y = a 2 in a 3": "123", "let x = a 1 and y = a 2 in a 3": "213",
		"match a 1, a 2 with x, y -> a 3": "213", "match a 1, a 2, a 3 with _, 5, _ -> a 3 | _ -> a 4": "3214", "match (a 1, a 2), a 3 with p -> a 4": "3214",
		"match a 1 with 2 -> a 3 | _ -> a 4": "14", "match a 1 with 1 when n 2 -> a 3 | 1 when b 4 -> a 5 | _ -> a 6": "1245",
		"try a 1 with _ -> a 2": "1", "try a 1; raise N with End_of_file -> a 2 | N when n 3 -> a 4 | _ when b 5 -> a 6 | _ -> a 7": "1356",
		"compare (a 1)": "1", "let c = compare (a 1) in c (a 2)": "12", "exit (a 1) (a 2)": "21",
	} {
		got := holds(t, head+says+"let _ = "+s)
		if got.Kind != 1 || got.Out != want {
			t.Errorf("%s: got %+v, want %s", s, got, want)
		}
	}
}

// Each built-in function, with fewer, just as many and more arguments, and as a value.
func TestEachBuiltIn(t *testing.T) {
	comes(t, "let _ = print_string (read_line ()); print_int (string_length (read_line ())); print_string (string_of_int (int_of_string (read_line ()) + 1)); read_line ()", ending{Kind: 2, Exn: "End_of_file", Out: "ab312", Read: 3}, "ab", "cde", "11")
	comes(t, "let p = print_int let s = print_string let r = read_line let x = exit let t = string_of_int let i = int_of_string let l = string_length let g = string_get let m = array_make let n = array_length let c = compare let h = hash "+
		"let _ = p (c 2 1); s (r () ^ t (i \"12\")); p (l \"abc\"); p (g \"abc\" 1); p (n (m 3 4)); p (h 5 - h 5); x 300", ending{Kind: 1, Code: 44, Out: "1q1239830", Read: 1}, "q")
	number(t, "let c = compare 2 in 100 * c 1 + 10 * c 2 + c 3 + 5", "104")
	number(t, "let g = string_get \"abc\" in g 0 + g 2", "196")
	number(t, "let m = array_make 3 in array_length (m 1) * 10 + (m 7).(2)", "37")
	prints(t, "compare; compare 1; string_get \"\"; array_make (-1); print_int; print_int 5", "5")
	raises(t, "let m = array_make (-1) in print_int 1; m 0", "Invalid_argument", "1")
	raises(t, "let g = string_get \"\" in print_int 1; g 0", "Invalid_argument", "1")
	raises(t, "let c = compare compare in print_int 1; c compare", "Invalid_argument", "1")
	raises(t, "hash print_int", "Invalid_argument", "")
	number(t, "let rec map f l = match l with [] -> [] | x :: k -> f x :: map f k in match map compare [1; 2; 3] with [a; b; c] -> 100 * a 2 + 10 * b 2 + c 2 | _ -> 0", "-99")
	number(t, "let f = (fun x -> compare) in f 1 2 3", "-1")
	number(t, "(fun f -> f 1 2) compare", "-1")
	number(t, "(array_make 3 (fun x -> x + 1)).(1) 5", "6")
	for _, s := range []string{"exit 3", "exit 3 4", "exit 3 4 (print_int 5) 6", "1 + exit 3", "let e = exit in e 3 4 5", "(if true then exit else (fun x -> x)) 3"} {
		got := holds(t, head+"let _ = "+s)
		if got.Kind != 1 || got.Code != 3 || strings.Trim(got.Out, "5") != "" {
			t.Errorf("%s: got %+v", s, got)
		}
	}
	raises(t, "int_of_string \"x\"", "Failure", "")
	raises(t, "string_get \"abc\" 3", "Invalid_argument", "")
}

// Functions with fewer, just as many and more arguments.
func TestAsManyArguments(t *testing.T) {
	f := "let f x y z = print_string \".\"; 100 * x + 10 * y + z in "
	number(t, f+"f 1 2 3", ".123")
	number(t, f+"((f 1) 2) 3", ".123")
	number(t, f+"let g = f 1 in let h = g 2 in let k = g 3 in h 4 + k 5 + g 6 7", "...426")
	prints(t, f+"f; f 1; f 1 2; (f 1) 2; print_int 5", "5")
	number(t, "(fun x -> fun y -> fun z -> 100 * x + 10 * y + z) 1 2 3", "123")
	number(t, "(fun x y -> fun z v w -> x + 10 * y + 100 * z + 1000 * v + 10000 * w) 1 2 3 4 5", "54321")
	number(t, "let g = (fun x y -> fun z v w -> x + 10 * y + 100 * z + 1000 * v + 10000 * w) in let h = g 1 in let k = h 2 3 in k 4 5", "54321")
	comes(t, "let id x = x let _ = print_int (id id id id id 4)", done("4"))
	prints(t, "(fun x -> print_int x; fun y -> print_int y; fun z -> print_int z) (print_int 4; 1) (print_int 5; 2) (print_int 6; 3)", "654123")
	raises(t, "(fun x -> if x = 1 then raise N else fun y -> y) 1 (print_int 2)", "N", "2")
	number(t, "let f (x, y) z (B v | C (B v, _)) = x + 10 * y + 100 * z + 1000 * v in f (1, 2) 3 (B 4) + f (1, 1) 1 (C (B 1, A))", "5432")
}

// Functions and recursions of several names.
func TestRec(t *testing.T) {
	number(t, "let rec f n = if n = 0 then 0 else n + f (n - 1) in f 20", "210")
	number(t, "let rec e n = n = 0 || o (n - 1) and o n = n <> 0 && e (n - 1) in if e 11 then 1 else if o 11 then 2 else 3", "2")
	number(t, "let rec f x y = if x = 0 then y else f (x - 1) (y + x) and g = function 0 -> 1 | n -> n * g (n - 1) in f 4 (g 5)", "130")
	number(t, "let rec f n = let k = n * 2 in let rec g m = if m = 0 then k else 1 + g (m - 1) in if n = 0 then 0 else g n + f (n - 1) in f 3", "18")
	number(t, "let f x = let y = x * 2 in fun z -> let w = z + 1 in fun v -> x + 10 * y + 100 * z + 1000 * w + 10000 * v in f 1 2 3", "33221")
	number(t, "match 1, 2 with x, y -> let f = (fun z -> x + y * z) in match 3, 4 with x, y -> f x + y", "11")
	number(t, "let f = try raise (E \"ab\") with E s -> (fun u -> string_length s) in f ()", "2")
	number(t, "let r = ref (fun x -> x) in let f = (fun x -> if x = 0 then 7 else !r (x - 1)) in r := f; f 5", "7")
	prints(t, "let l = ref [] in for i = 1 to 3 do l := (fun u -> print_int i) :: !l done; match !l with [a; b; c] -> a (); b (); c () | _ -> ()", "321")
}

// The chapter's examples, and what is made of the plainest things.
func TestExamples(t *testing.T) {
	shape := func(s string) api.Lam {
		t.Helper()
		return lowered(t, s).Body
	}
	c := shape("let f = print_int (1 + 2)").L[0]
	if c.Kind != api.LCall || c.N != api.BPrintInt || len(c.L) != 1 || c.L[0].Kind != api.LOp || c.L[0].N != api.OpAdd || c.L[0].L[0].N != 1 || c.L[0].L[1].N != 2 {
		t.Errorf("print_int (1 + 2): %s", shown(c))
	}
	c = shape("let f = compare 1").L[0]
	if c.Kind != api.LApp || len(c.L) != 2 || c.L[0].Kind != api.LFun || c.L[0].N != 2 || c.L[0].L[0].Kind != api.LCall {
		t.Errorf("compare 1: %s", shown(c))
	}
	c = shape("type t = A | B of int let f x = match x with A -> 1 | B y -> y")
	if kinds(c, api.LSwitch) != 1 || kinds(c, api.LLet) != 2 || kinds(c, api.LCatch, api.LExit, api.LRaise) != 0 {
		t.Errorf("match: %s", shown(c))
	}
}

// What is always met isn't asked for; what is alike is asked for once; a tuple that only patterns see isn't laid.
func TestNoMoreThanIsNeeded(t *testing.T) {
	none := []int{api.LSwitch, api.LCatch, api.LExit, api.LRaise, api.LBlock}
	for s, of := range map[string]struct {
		many  int
		kinds []int
	}{
		"let f () = 1":                                  {0, none},
		"let f (x, (y, z)) = x":                         {0, none},
		"let f a b = match a, b with x, y -> x + y":     {0, none},
		"let x = 1 and y = 2":                           {0, none},
		"type l = L of int let f (L n) = n":             {0, none},
		"type l = L let f L = 1":                        {0, none},
		"let f (x, y | y, x) = x + y":                   {2, []int{api.LCatch, api.LExit}},
		"let f = function true -> 1 | false -> 2":       {1, none},
		"let f = function [] -> 1 | x :: _ -> x":        {1, none},
		"let f = function 1 | 2 -> 1 | 3 -> 4 | _ -> 5": {1, []int{api.LSwitch}},
		"let f = function 1, 2 -> 3 | 1, 4 -> 5 | 6, _ -> 7 | _, 8 -> 9 | _ -> 10":       {3, []int{api.LSwitch}},
		"let f = function \"a\", 2 -> 3 | \"b\", 4 -> 5 | \"a\", 7 -> 8 | _ -> 10":       {2, []int{api.LIf}},
		"let f = function [] -> 1 | _ -> 2 | 1 :: _ -> 3":                                {1, []int{api.LSwitch}},
		"let f = function [] -> 1 | [_] -> 2 | [_; _] -> 3 | _ :: _ :: _ :: _ -> 4":      {3, append(none, api.LSeq)},
		"let f = function (1, 2), x -> 3 | _, y -> 4 | _ -> 5":                           {2, []int{api.LSwitch}},
		"let f x = match x with _ -> 1":                                                  {1, append(none, api.LLet, api.LField)},
		"let f = function 1 -> 2 | 1 when 3 > 4 -> 5":                                    {1, []int{api.LSwitch}},
		"let f = function 1 when 3 > 4 -> 5 | 1 -> 2":                                    {2, []int{api.LSwitch}},
		"let f = function false -> 1 | true -> 2":                                        {1, none},
		"let f = function x :: _ -> 1 | [] -> 2":                                         {1, none},
		"type u = U | V let f = function V -> 1 | U -> 2":                                {1, none},
		"type u = U of int | V | W of int let f = function V -> 1 | U _ -> 2 | W _ -> 3": {1, none},
		"type u = U of int | V | W of int let f = function W _ -> 1 | V -> 2 | U _ -> 3": {1, none},
		"type u = U of int | V | W of int let f = function W _ -> 1 | V -> 2":            {3, []int{api.LSwitch, api.LRaise, api.LExit}},
		"type u = U of int | V | W of int let f = function W _ -> 1 | U _ -> 2":          {3, []int{api.LSwitch, api.LRaise, api.LExit}},
		"exception E let f x = try raise x with Not_found -> 1 | End_of_file -> 2 | E -> 3 | Match_failure -> 4 | Division_by_zero -> 5 | Invalid_argument -> 6 | Failure _ -> 7": {3, []int{api.LSwitch, api.LRaise}},
		"let f (x, _) = x": {1, []int{api.LField}},
		"let f = function (x, (1, _)) -> x | (_, (_, 2)) -> 3 | _ -> 4":    {4, []int{api.LField}},
		"type r = {a : int; b : int; c : int} let f {b = x} = x":           {1, []int{api.LField}},
		"let f a b = match a, b with (1 | 2), _ -> 3 | 4, _ -> 5 | _ -> 6": {1, []int{api.LSwitch}},
		"let f x = try x + 1 with _ -> 2":                                  {0, none},
	} {
		c := lowered(t, s).Body
		if got := kinds(c, of.kinds...); got != of.many {
			t.Errorf("%s: %d of %v, not %d: %s", s, got, of.kinds, of.many, shown(c))
		}
	}
}

// What the ways bind is passed once; where it is too much for one LExit, in a block.
func TestPassed(t *testing.T) {
	for s, want := range map[string]int{
		"let f (x, y | y, x) = x + y": 2, "let f (x, 1 | 1, x | x, 2) = x": 1, "let f = function 1 | 2 -> 3 | _ -> 4": 0, "let f ((x, y as p), 1 | (y, x as p), _) = p": 3,
		"let f (x, (1, y | y, _) | y, (x, _)) = x + y": 3,
	} {
		passed := 0
		for _, c := range listed(lowered(t, s).Body) {
			if c.Kind == api.LCatch {
				passed += len(c.Ns)
			}
		}
		if passed != want {
			t.Errorf("%s: %d are passed, not %d", s, passed, want)
		}
	}
}

// P14.1: the program has d's exceptions, and what is declared stays as it is.
func TestExceptions(t *testing.T) {
	for _, s := range []string{"", "exception A", "exception A of int * (string -> exn list) exception B exception C of int ref let _ = raise (A (1, (fun x -> [])))"} {
		d, c := typed(t, s)
		p, e := lower.Of(d, c)
		if e != api.OK || !sameCons(p.Exns, d.Exns) {
			t.Errorf("%s: %d, %v", s, e, p.Exns)
		}
	}
	comes(t, "exception M of int exception K let _ = raise (M 3)", uncaught("M", ""))
	comes(t, "exception M of int exception K let _ = raise K", uncaught("K", ""))
}

func sameCons(a, b []api.Con) bool {
	if len(a) != len(b) {
		return false
	}
	for i := range a {
		if a[i].Name != b[i].Name || a[i].N != b[i].N || !sameTypes(a[i].Of, b[i].Of) {
			return false
		}
	}
	return true
}

func sameTypes(a, b []api.Type) bool {
	if len(a) != len(b) {
		return false
	}
	for i := range a {
		if a[i].V != b[i].V || a[i].S != b[i].S || !sameTypes(a[i].L, b[i].L) {
			return false
		}
	}
	return true
}
