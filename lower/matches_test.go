package lower_test

import "testing"

// P14.2: the first case whose pattern is met, of each kind of pattern.
func TestFirstCase(t *testing.T) {
	number(t, "match 2 with 1 -> 10 | 2 -> 20 | 2 -> 30 | _ -> 40", "20")
	number(t, "match 5 with 1 -> 10 | 2 -> 20 | 2 -> 30 | x -> x", "5")
	number(t, "match -1 with 1 -> 10 | -1 -> 20 | _ -> 30", "20")
	number(t, "match 4611686018427387903 with 1 -> 10 | -4611686018427387903 -> 20 | 4611686018427387903 -> 25 | _ -> 30", "25")
	number(t, `match "ab" with "a" -> 1 | "abc" -> 2 | "ab" -> 3 | _ -> 4`, "3")
	number(t, `match "" with "a" -> 1 | "" -> 2 | _ -> 3`, "2")
	number(t, `match "x" with "a" -> 1 | "" -> 2 | "a" -> 4 | s -> string_length s + 4`, "5")
	number(t, "match D with A -> 1 | B _ -> 2 | C _ -> 3 | D -> 4", "4")
	number(t, "match B 1 with A -> 1 | D -> 4 | C _ -> 3 | B 2 -> 5 | B _ -> 2", "2")
	number(t, "match C (A, D) with A -> 1 | B _ -> 2 | C (_, A) -> 3 | C (D, _) -> 4 | C (A, D) -> 5 | C _ -> 6 | D -> 7", "5")
	number(t, "match [] with _ :: _ -> 1 | [] -> 2", "2")
	number(t, "match [1] with [] -> 1 | [_; _] -> 2 | [2] -> 3 | [x] -> 4 | _ -> 5", "4")
	number(t, "match [1; 2; 3] with [] -> 1 | [_] -> 2 | [_; x] -> 3 | x :: y :: z -> (match z with [w] -> x + y * 10 + w * 100 | _ -> 0)", "321")
	number(t, "match (1, (true, \"a\")) with (1, (false, _)) -> 1 | (_, (true, \"b\")) -> 2 | (x, (true, _)) -> x + 5 | _ -> 9", "6")
	number(t, "match {x = 1; y = B 2; z = 3} with {y = A} -> 1 | {z = 3; x = 2} -> 2 | {y = B n; z = m} -> n * 10 + m | _ -> 4", "23")
	number(t, "match () with () -> 7", "7")
	number(t, "match true with false -> 1 | true -> 2", "2")
	number(t, "match false with false -> 1 | true -> 2", "1")
	number(t, "match L with L -> 1", "1")
	number(t, "match V with U -> 1 | V -> 2", "2")
	number(t, "match U with U -> 1 | _ -> 2", "1")
	number(t, "match W (3, \"ab\") with W (n, s) -> n * 10 + string_length s", "32")
	number(t, "match W (3, \"ab\") with W (3, \"a\") -> 1 | W (2, \"ab\") -> 2 | W (3, \"ab\") -> 4 | W _ -> 5", "4")
	number(t, "match Not_found with Division_by_zero -> 1 | E _ -> 2 | Not_found -> 3 | _ -> 4", "3")
	number(t, `match Failure "x" with E "x" -> 1 | P _ -> 2 | Failure "y" -> 3 | Failure s -> string_length s | _ -> 4`, "1")
	number(t, "match P (1, B 2) with Failure _ -> 1 | P (1, A) -> 2 | P (n, B m) -> n * 10 + m | _ -> 3", "12")
	number(t, "match [|1; 2|] with a -> array_length a", "2")
	number(t, "match (fun x -> x + 1) with f -> f 4", "5")
	number(t, "match ref 3 with r -> r := !r + 1; !r", "4")
}

// One function is asked of all that its cases tell apart, and of what they don't.
func TestEachValue(t *testing.T) {
	for s, want := range map[string]string{
		"let f = function 0 -> 1 | 1 -> 2 | 5 -> 3 | -3 -> 4 | 1 -> 5 | _ -> 6 in l (f 0); l (f 1); l (f 5); l (f (-3)); l (f 2); l (f (-1))":                                                                                                                                   "123466",
		"let f = function A -> 1 | D -> 2 | B 1 -> 3 | C (A, _) -> 4 | B _ -> 5 | C (_, D) -> 6 | C _ -> 7 in l (f A); l (f D); l (f (B 1)); l (f (B 2)); l (f (C (A, D))); l (f (C (D, D))); l (f (C (D, A)))":                                                                 "1235467",
		"let f = function A, A -> 1 | _, A -> 2 | A, _ -> 3 | B n, B m -> n + m | _, (B _ | D) -> 5 | _ -> 6 in l (f (A, A)); l (f (D, A)); l (f (A, D)); l (f (B 3, B 4)); l (f (D, D)); l (f (D, B 2)); l (f (D, C (A, A)))":                                                  "1237556",
		"let f = function true, true -> 1 | false, _ -> 2 | _, false -> 3 in l (f (true, true)); l (f (false, true)); l (f (false, false)); l (f (true, false))":                                                                                                                "1223",
		"let f = function [] -> 1 | [1] -> 2 | [_] -> 3 | 1 :: 2 :: _ -> 4 | _ :: 2 :: [] -> 5 | _ :: _ -> 6 in l (f []); l (f [1]); l (f [2]); l (f [1; 2; 3]); l (f [3; 2]); l (f [3; 2; 1]); l (f [1; 1])":                                                                   "1234566",
		"let f = function \"a\", 1 -> 1 | \"b\", 1 -> 2 | \"a\", 2 -> 3 | \"c\", _ -> 4 | _, 2 -> 5 | _ -> 6 in l (f (\"a\", 1)); l (f (\"b\", 1)); l (f (\"a\", 2)); l (f (\"c\", 2)); l (f (\"d\", 2)); l (f (\"b\", 2)); l (f (\"b\", 3))":                                   "1234556",
		"let f = function {x = 1; y = A} -> 1 | {y = B 1; z = 2} -> 2 | {x = 2} -> 3 | {z = 3; y = D | A} -> 4 | _ -> 5 in l (f {x = 1; y = A; z = 0}); l (f {x = 1; y = B 1; z = 2}); l (f {x = 2; y = A; z = 2}); l (f {x = 3; y = A; z = 3}); l (f {x = 3; y = B 1; z = 3})": "12345",
		"let f = function N -> 1 | E \"a\" -> 2 | Not_found -> 3 | Failure s -> 4 | E _ -> 5 | P (1, _) -> 6 | _ -> 7 in l (f N); l (f (E \"a\")); l (f Not_found); l (f (Failure \"\")); l (f (E \"b\")); l (f (P (1, A))); l (f (P (2, A))); l (f End_of_file)":               "12345677",
	} {
		prints(t, "let l = print_int in "+s, want)
	}
}

// Where no case is met, a match raises Match_failure.
func TestNoCase(t *testing.T) {
	for _, s := range []string{
		"match 3 with 1 -> () | 2 -> ()", "match [1] with [] -> ()", "match [] with _ :: _ -> ()", `match "a" with "b" -> ()`,
		"match A with D | B _ -> ()", "match (1, 2) with (1, 1) | (2, _) -> ()", "match 1 with _ when false -> () | 1 when 1 > 2 -> ()",
		"match false with true -> ()", "match {x = 1; y = A; z = 2} with {x = 2} | {z = 1} -> ()", "(function 1 -> () | 2 -> ()) 3", "match Not_found with N -> ()",
		"match U with V -> ()", "match B 1 with B 2 -> () | A | C _ | D -> ()", "match E \"a\" with E \"b\" -> ()", "match L with L when false -> ()", "let B x = A in x; ()", "(fun (B x) -> ()) D",
	} {
		raises(t, s, "Match_failure", "")
	}
	number(t, "try (match 3 with 1 -> 1) with Match_failure -> 2", "2")
	number(t, "try (match 3 with _ when false -> 1) with Not_found -> 3 | Match_failure -> 2", "2")
	raises(t, "match (print_int 1; 3) with 1 -> () | _ when (print_int 2; false) -> ()", "Match_failure", "12")
	raises(t, "let f 1 x = x in f (print_int 7; 2) (print_int 8)", "Match_failure", "87")
	prints(t, "let f 1 x = x in f (print_int 7; 2); print_int 8", "78")
}

// A case's guard is asked with what its pattern binds; where it comes to 0, the next case is.
func TestGuards(t *testing.T) {
	number(t, "match 5 with x when x < 5 -> 1 | x when x = 5 -> 10 + x | _ -> 2", "15")
	number(t, "match (3, 4) with (x, y) when x > y -> 1 | (y, x) when x > y -> x * 10 + y | _ -> 2", "43")
	number(t, "match 1 with x when (print_int x; false) -> 1 | y when (print_int 2; true) -> 3 | z when (print_int 4; true) -> 5 | _ -> 6", "123")
	number(t, "match B 2 with B 1 when (print_int 7; true) -> 1 | B n when (let m = n * 2 in m = 4) -> 5 | _ -> 6", "5")
	number(t, "match 1 with x when (match x with 1 -> false | _ -> true) -> 1 | x when (match 2 with x when x = 2 -> true | _ -> false) -> x + 6 | _ -> 2", "7")
	raises(t, "match 1 with _ when raise N -> () | _ -> print_int 2", "N", "")
	comes(t, "let _ = match 1 with _ when (print_int 3; exit 2) -> () | _ when raise N -> print_int 2", ending{Kind: 1, Code: 2, Out: "3"})
	number(t, "try (match 1 with _ when raise N -> 1 | _ -> 2) with N -> 3", "3")
	number(t, "match 1 with _ when (try raise N with N -> (print_int 1; false)) -> 1 | _ when (try raise N with N when (print_int 2; true) -> true | _ -> false) -> 2 | _ -> 3", "122")
	number(t, "match 1, 2 with (a, b) when (let c = 9 in c < a) -> a | (b, a) -> a * 10 + b", "21")
	number(t, "match C (B 1, B 2) with C (B n, _) when n > 1 -> n | C (_, B n) when n > 2 -> n + 10 | C (B n, B m) when n > m -> 7 | C (B n, B m) -> n * 10 + m | _ -> 0", "12")
}

// P14.3: behind a guard all is asked anew: it may have been changed.
func TestAskedAnew(t *testing.T) {
	prints(t, `let x = {x = 1; y = A; z = 1} in match x with {z = 1} when (x.z <- 2; false) -> () | {z = 1} -> print_int 1 | {z = 2} -> print_string "anew" | _ -> ()`, "anew")
	number(t, "let a = {x = 1; y = B 1; z = 1} in match a with {y = B n; z = k} when (a.y <- B 5; a.z <- 7; n + k = 3) -> 1 | {y = B 1} -> 2 | {y = B n; z = k} -> n * 10 + k | _ -> 3", "57")
	number(t, "let a = {x = 1; y = A; z = 1} in match a with {z = k} when (a.z <- 7; true) -> k * 10 + a.z | _ -> 0", "17")
	raises(t, "let a = {x = 1; y = A; z = 1} in match a with {z = 2} -> () | _ when (a.z <- 2; false) -> () | {z = 1} -> ()", "Match_failure", "")
	number(t, "let a = {x = 1; y = A; z = 1} in match a with {y = A; z = 1} when (a.y <- C (A, B 6); false) -> 1 | {y = A} -> 2 | {y = C (A, B n)} when (a.y <- B n; false) -> 3 | {y = C _} -> 4 | {y = B n; z = m} -> n * 10 + m | _ -> 5", "61")
	number(t, "let a = {x = 1; y = A; z = 1} in let b = [a; a] in match b with [{z = 1}; {z = 1}] when (a.z <- 3; false) -> 1 | {z = 1} :: _ -> 2 | [{z = 3}; {z = n}] -> n | _ -> 4", "3")
	number(t, "let a = {x = 1; y = A; z = 1} in match 1, a with 1, {z = 1} when (a.z <- 3; false) -> 1 | 1, {z = 1} -> 2 | 1, {z = n} -> n | _ -> 4", "3")
	number(t, "let a = ref 1 in match !a with 1 when (a := 2; false) -> 1 | 2 -> 2 | 1 -> !a + 3 | _ -> 4", "5")
	number(t, "let a = [|1; 2|] in match a.(0), a with 1, _ when (a.(0) <- 2; false) -> 1 | 2, _ -> 2 | n, b -> n * 10 + b.(0)", "12")
	number(t, "let a = {x = 1; y = A; z = 1} in match a with {z = 1 | 2} | {x = 1} when (a.z <- a.z + 1; a.z > 3) -> 1 | {z = 1 | 2; x = n} when (a.z <- 4; false) -> n | {z = 1 | 2 | 3} -> 5 | {z = 4} -> 6 | _ -> 7", "6")
	number(t, "let a = {x = 1; y = A; z = 1} in try raise (P (1, (a.y <- B 2; a.y))) with P (_, B n) when (a.y <- B 3; false) -> 1 | P (1, B n) -> n + 5 | _ -> 2", "7")
	number(t, "let a = {x = 1; y = A; z = 1} in let f b = match b with {y = A} when (b.y <- D; false) -> 1 | {y = A} -> 2 | {y = D} when (b.z <- b.z + 1; b.z = 3) -> 3 | {y = D} -> 4 | _ -> 5 in f a * 10 + f a", "34")
}

// A QOr is met by its first way, if that is met, else by its second one; a guard that comes to 0 doesn't try the other way.
func TestOrs(t *testing.T) {
	number(t, "match 3 with 1 | 2 -> 10 | 3 | 4 -> 20 | _ -> 30", "20")
	number(t, "match (1, 2) with (x, 1) | (x, 2) -> x | _ -> 5", "1")
	number(t, "match (1, 2) with (x, _) | (_, x) -> x", "1")
	number(t, "match (1, 2) with (x, _) | (_, x) when x = 2 -> x | _ -> 7", "7")
	number(t, "match (1, 2) with (x, y) | (y, x) -> x * 10 + y", "12")
	number(t, "match 5 with 5 | 5 when (print_int 1; false) -> 1 | _ -> 2", "12")
	number(t, "match (1, 2) with ((1 | _), 3) -> 1 | ((_ | 1), 2) -> 2 | _ -> 3", "2")
	number(t, "match (1, 2) with (1 | 2), 5 -> 1 | 1, 2 -> 2 | _ -> 3", "2")
	number(t, "match (1, 2) with (1 | 2), (3 | 4) -> 1 | (1 | 3), (2 | 5) -> 2 | _ -> 3", "2")
	number(t, "match (2, 2) with (1 | 2), 5 -> 1 | 1, 2 -> 2 | (1 | 3 | 2), 1 -> 4 | 2, (3 | 2) -> 5 | _ -> 3", "5")
	number(t, `match "b", 2 with ("a" | "b"), 1 -> 1 | "b", (1 | 3) -> 2 | ("c" | "b"), _ -> 3 | _ -> 4`, "3")
	number(t, "let f = function A | B (1 | 2) | C ((A | D), _) -> 1 | B (3 | 4) | C (_, (A | D)) -> 2 | D | B _ -> 3 | _ -> 4 in f A + 10 * f (B 2) + 100 * f (C (D, B 1)) + 1000 * f (B 4) + 10000 * f (C (B 1, D)) + 100000 * f D + 1000000 * f (B 5) + 10000000 * f (C (B 1, B 1))", "43322111")
}

// Both ways bind the same variables, in whichever order they stand there, and wherever.
func TestOrsBind(t *testing.T) {
	number(t, "match (1, 2, 3) with (x, y, 4) | (y, x, 3) -> x * 10 + y | _ -> 0", "21")
	number(t, "match (1, (2, 3)) with (x, (y, 4)) | (2, (x, y)) | (y, (_, x)) -> x * 10 + y | _ -> 0", "31")
	number(t, "match [1; 2] with [x] | [_; x] | [_; _; x] -> x | _ -> 0", "2")
	number(t, "match B 4 with (A | D) -> 1 | C (B n, _) | C (_, B n) | B n -> n | _ -> 3", "4")
	number(t, "match C (D, B 4) with C (B n, _) | C (_, B n) | B n -> n | _ -> 3", "4")
	number(t, "match (1, 2) with ((1 | 2), (3 | 4)) -> 1 | ((3 | 1), (2 | 3)) -> 2 | _ -> 3", "2")
	number(t, "match (1, 2), 5 with ((x, 3) | (_, x)), y -> x * 10 + y", "25")
	number(t, "match ((1, 2), 3) with ((x, _), 4) | ((_, x), 3) -> x | _ -> 0", "2")
	number(t, "match (1, 2) with ((1 as x), 3 | (2 as x), 2 | x, _) -> x + 5", "6")
	comes(t, "let (x, y) | (y, x) = (1, 2) let _ = print_int x; print_int y", done("12"))
	number(t, "let k = (1, 2) in match k with ((((x, 2) as p) | ((_, x) as p)) as q) -> (match p, q with (a, b), (c, d) -> a + 10 * b + 100 * c + 1000 * d) + 10000 * x", "12121")
	number(t, "match C (C (B 1, B 2), B 3) with C (C (B a, b), c) | C (c, C (b, B a)) when (c = B 4) -> 1 | (C (C (B a, (B _ as b)), (B _ as c)) | C ((B a as b), (C _ as c))) -> if b < c then a + 6 else 3 | _ -> 0", "7")
	number(t, "match [1; 2; 3], [4] with (([x; _; y] | x :: y :: _), ([z] | _ :: z :: _)) -> x * 100 + y * 10 + z | _ -> 0", "134")
}

func TestAs(t *testing.T) {
	number(t, "match (1, 2) with (x, y as p) as q -> (match p with (a, b) -> a * 10 + b) + x + y + (match q with (a, _) -> a)", "16")
	number(t, "match 2, 3 with x, (2 | 3 as z) when x < 5 -> x + z | _ -> 9", "5")
	number(t, "match [1; 2] with (_ :: r as l) -> (match r with [x] -> x | _ -> 0) + (match l with [x; _] -> x * 10 | _ -> 0) | _ -> 5", "12")
	number(t, "let a = [|1|] in match a with b as c -> b.(0) <- 5; a.(0) + c.(0)", "10")
	number(t, "match 1, 2 with (1 as a as b), (_ as c as d) -> a + b * 10 + c * 100 + d * 1000 | _ -> 0", "2211")
	number(t, "match (match 1, 2 with p -> p) with a, b -> a * 10 + b", "12")
	number(t, "match 1, 2 with (_, 3) as p -> 0 | p -> (match p with a, b -> a * 10 + b)", "12")
}

// Patterns within each other.
func TestDeepPatterns(t *testing.T) {
	number(t, "match ((1, 2), [3; 4], B 5, \"6\") with ((a, b), [c; d], B e, \"6\") -> a + b * 10 + c * 100 + d * 1000 + e * 10000 | _ -> 0", "54321")
	number(t, "match [[1]; []; [2; 3]] with [[a]; []; b :: [c]] -> a * 100 + b * 10 + c | _ -> 0", "123")
	number(t, "let f = function (0 | 1), y -> y | x, (2 | 3 as z) when x < 5 -> x + z | _ -> 9 in f (1, 4) * 100 + f (2, 3) * 10 + f (7, 2)", "459")
	number(t, "match P (3, C (B 1, C (A, D))) with P (_, C (B 2, _)) -> 1 | P (3, C (B n, C (_, (A | B _)))) -> 2 | P (n, C (B m, C (A, D))) -> n * 10 + m | _ -> 3", "31")
	number(t, "match (1, 2), (3, (4, 5)) with (a, 2), (3, (b, 6)) -> 1 | (a, b), (c, (d, e)) -> a + b * 10 + c * 100 + d * 1000 + e * 10000", "54321")
	number(t, "let a, (b, [c]), {x = d} = 1, (2, [3]), {x = 4; y = A; z = 5} in a + b * 10 + c * 100 + d * 1000", "4321")
	number(t, "let (a, _) = (print_int 1; 2), (print_int 3; 4) and B b = (print_int 5; B 6) in a * 10 + b", "53126")
}

// P14.2: a try's cases are of what its first part raises; where no one is met, it is raised further.
func TestTries(t *testing.T) {
	number(t, "try 1 with _ -> 2", "1")
	number(t, "try raise N with _ -> 2", "2")
	number(t, "try raise N with E _ -> 1 | P _ -> 2 | Not_found -> 3 | N -> 4", "4")
	number(t, "try raise (P (3, B 4)) with E _ -> 1 | P (_, A) -> 2 | P (n, B m) -> n * 10 + m", "34")
	number(t, `try raise (E "abc") with E "ab" -> 1 | E s -> string_length s`, "3")
	number(t, "try raise N with e -> (try raise e with N -> 5)", "5")
	number(t, "try raise N with x when (print_int 1; false) -> 2 | N when (print_int 3; true) -> 4 | _ -> 5", "134")
	number(t, "try raise N with E _ | N -> 1 | _ -> 2", "1")
	number(t, "1 + (try 10 + raise N with N -> 2)", "3")
	number(t, "let f x = raise N in try f 1 + f 2 with N -> 3", "3")
	number(t, "let x = 1 in try (let y = 2 in let z = 3 in if y + z > 1 then raise N else 4) with N -> (let w = 5 in x * 10 + w)", "15")
	raises(t, "try raise N with E _ -> () | P _ -> ()", "N", "")
	raises(t, "try raise N with _ when (print_int 1; false) -> () | N when (print_int 2; false) -> ()", "N", "12")
	raises(t, "try raise (E \"a\") with E \"b\" -> () | N -> ()", "E", "")
	number(t, "try (try raise N with E _ -> 1) with N -> 2", "2")
	number(t, "try (try raise N with N -> raise (E \"ab\")) with N -> 1 | E s -> string_length s", "2")
	number(t, "try (try raise N with N when raise (E \"ab\") -> 1 | _ -> 5) with N -> 1 | E s -> string_length s", "2")
	number(t, "try (match raise N with 1 -> 2 | _ -> 3) with N -> (match 4 with 4 -> 5 | _ -> 6)", "5")
	number(t, "match (try raise (P (1, D)) with P (n, d) -> (d, n)) with A, _ -> 1 | D, n -> n + 6 | _ -> 2", "7")
	number(t, "try (try 1 / 0 with Not_found -> 1) with Division_by_zero -> (try int_of_string \"x\" with Failure s -> string_length s)", "13")
	number(t, "match 1 with 1 -> (try (match 2 with 2 when false -> 3 | 3 -> 4) with Match_failure -> 5) | _ -> 6", "5")
	comes(t, "let rec f n = try if n = 0 then raise N else f (n - 1) with N when n > 2 -> print_int n; raise Not_found | E _ -> () let _ = f 5", uncaught("Not_found", "3"))
}
