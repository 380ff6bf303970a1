package model_test

import "testing"

// P12.1: the first case whose pattern is met.
func TestFirstCase(t *testing.T) {
	number(t, "match 2 with 1 -> 10 | 2 -> 20 | 2 -> 30 | _ -> 40", "20")
	number(t, "match 5 with 1 -> 10 | 2 -> 20 | 2 -> 30 | x -> x", "5")
	number(t, "match -1 with 1 -> 10 | -1 -> 20 | _ -> 30", "20")
	number(t, `match "ab" with "a" -> 1 | "abc" -> 2 | "ab" -> 3 | _ -> 4`, "3")
	number(t, `match "" with "a" -> 1 | "" -> 2 | _ -> 3`, "2")
	number(t, "match D with A -> 1 | B _ -> 2 | C _ -> 3 | D -> 4", "4")
	number(t, "match B 1 with A -> 1 | D -> 4 | C _ -> 3 | B 2 -> 5 | B _ -> 2", "2")
	number(t, "match C (A, D) with A -> 1 | B _ -> 2 | C (_, A) -> 3 | C (D, _) -> 4 | C (A, D) -> 5 | C _ -> 6 | D -> 7", "5")
	number(t, "match [] with _ :: _ -> 1 | [] -> 2", "2")
	number(t, "match [1] with [] -> 1 | [_; _] -> 2 | [2] -> 3 | [x] -> 4 | _ -> 5", "4")
	number(t, "match [1; 2; 3] with [] -> 1 | [_] -> 2 | [_; x] -> 3 | x :: y :: z -> (match z with [w] -> x + y * 10 + w * 100 | _ -> 0)", "321")
	number(t, "match (1, (true, \"a\")) with (1, (false, _)) -> 1 | (_, (true, \"b\")) -> 2 | (x, (true, _)) -> x + 5 | _ -> 9", "6")
	number(t, "match {x = 1; y = B 2; z = 3} with {y = A} -> 1 | {z = 3; x = 2} -> 2 | {y = B n; z = m} -> n * 10 + m | _ -> 4", "23")
	number(t, "match () with () -> 7", "7")
	number(t, "match true with false -> 1 | true -> 2", "2")
	number(t, "match Not_found with Division_by_zero -> 1 | E _ -> 2 | Not_found -> 3 | _ -> 4", "3")
	number(t, `match Failure "x" with E "x" -> 1 | P _ -> 2 | Failure "y" -> 3 | Failure s -> string_length s | _ -> 4`, "1")
	number(t, "match P (1, B 2) with Failure _ -> 1 | P (1, A) -> 2 | P (n, B m) -> n * 10 + m | _ -> 3", "12")
}

func TestNoCase(t *testing.T) {
	for _, s := range []string{
		"match 3 with 1 -> () | 2 -> ()", "match [1] with [] -> ()", "match [] with _ :: _ -> ()", `match "a" with "b" -> ()`,
		"match A with D | B _ -> ()", "match (1, 2) with (1, 1) | (2, _) -> ()", "match 1 with _ when false -> () | 1 when 1 > 2 -> ()",
		"match false with true -> ()", "match {x = 1; y = A; z = 2} with {x = 2} | {z = 1} -> ()", "(function 1 -> () | 2 -> ()) 3", "match Not_found with N -> ()",
	} {
		raises(t, s, "Match_failure", "")
	}
	number(t, "try (match 3 with 1 -> 1) with Match_failure -> 2", "2")
	number(t, "try (match 3 with _ when false -> 1) with Not_found -> 3 | Match_failure -> 2", "2")
	raises(t, "match (print_int 1; 3) with 1 -> () | _ when (print_int 2; false) -> ()", "Match_failure", "12")
}

// A case's guard is asked with what its pattern binds; where it comes to 0, the next case is.
func TestGuards(t *testing.T) {
	number(t, "match 5 with x when x < 5 -> 1 | x when x = 5 -> 10 + x | _ -> 2", "15")
	number(t, "match (3, 4) with (x, y) when x > y -> 1 | (y, x) when x > y -> x * 10 + y | _ -> 2", "43")
	number(t, "match 1 with x when (print_int x; false) -> 1 | y when (print_int 2; true) -> 3 | z when (print_int 4; true) -> 5 | _ -> 6", "123")
	number(t, "match B 2 with B 1 when (print_int 7; true) -> 1 | B n when (let m = n * 2 in m = 4) -> 5 | _ -> 6", "5")
	number(t, "match 1 with x when (match x with 1 -> false | _ -> true) -> 1 | x when (match 2 with x when x = 2 -> true | _ -> false) -> x + 6 | _ -> 2", "7")
	raises(t, "match 1 with _ when raise N -> () | _ -> print_int 2", "N", "")
	number(t, "match 1, 2 with (a, b) when (let c = 9 in c < a) -> a | (b, a) -> a * 10 + b", "21")
}

// Behind a guard all is asked anew: it may have been changed.
func TestAskedAnew(t *testing.T) {
	prints(t, `let x = {x = 1; y = A; z = 1} in match x with {z = 1} when (x.z <- 2; false) -> () | {z = 1} -> print_int 1 | {z = 2} -> print_string "anew" | _ -> ()`, "anew")
	number(t, "let a = {x = 1; y = B 1; z = 1} in match a with {y = B n; z = k} when (a.y <- B 5; a.z <- 7; n + k = 3) -> 1 | {y = B 1} -> 2 | {y = B n; z = k} -> n * 10 + k | _ -> 3", "57")
	// what the pattern bound ahead of the change stays
	number(t, "let a = {x = 1; y = A; z = 1} in match a with {z = k} when (a.z <- 7; true) -> k * 10 + a.z | _ -> 0", "17")
	raises(t, "let a = {x = 1; y = A; z = 1} in match a with {z = 2} -> () | _ when (a.z <- 2; false) -> () | {z = 1} -> ()", "Match_failure", "")
}

// A QOr is met by its first way, if that is met, else by its second one; a guard that comes to 0 doesn't try the other way.
func TestOrs(t *testing.T) {
	number(t, "match 3 with 1 | 2 -> 10 | 3 | 4 -> 20 | _ -> 30", "20")
	number(t, "match (1, 2) with (x, 1) | (x, 2) -> x | _ -> 5", "1")
	number(t, "match (1, 2) with (x, _) | (_, x) -> x", "1")
	number(t, "match (1, 2) with (x, _) | (_, x) when x = 2 -> x | _ -> 7", "7")
	number(t, "match (1, 2) with (x, y) | (y, x) -> x * 10 + y", "12")
}

// Both ways bind the same variables, in whichever order they stand there.
func TestOrsBind(t *testing.T) {
	number(t, "match (1, 2, 3) with (x, y, 4) | (y, x, 3) -> x * 10 + y | _ -> 0", "21")
	number(t, "match (1, (2, 3)) with (x, (y, 4)) | (2, (x, y)) | (y, (_, x)) -> x * 10 + y | _ -> 0", "31")
	number(t, "match [1; 2] with [x] | [_; x] | [_; _; x] -> x | _ -> 0", "2")
	number(t, "match B 4 with (A | D) -> 1 | C (B n, _) | C (_, B n) | B n -> n | _ -> 3", "4")
	number(t, "match C (D, B 4) with C (B n, _) | C (_, B n) | B n -> n | _ -> 3", "4")
	number(t, "match (1, 2) with ((1 | 2), (3 | 4)) -> 1 | ((3 | 1), (2 | 3)) -> 2 | _ -> 3", "2")
	number(t, "match (1, 2), 5 with ((x, 3) | (_, x)), y -> x * 10 + y", "25")
	// the first way has bound x ahead of the part that isn't met
	number(t, "match ((1, 2), 3) with ((x, _), 4) | ((_, x), 3) -> x | _ -> 0", "2")
	number(t, "match (1, 2) with ((1 as x), 3 | (2 as x), 2 | x, _) -> x + 5", "6")
	shows(t, "let (x, y) | (y, x) = (1, 2) let _ = print_int x; print_int y", "12")
}

func TestAs(t *testing.T) {
	number(t, "match (1, 2) with (x, y as p) as q -> (match p with (a, b) -> a * 10 + b) + x + y + (match q with (a, _) -> a)", "16")
	number(t, "match 2, 3 with x, (2 | 3 as z) when x < 5 -> x + z | _ -> 9", "5")
	number(t, "match [1; 2] with (_ :: r as l) -> (match r with [x] -> x | _ -> 0) + (match l with [x; _] -> x * 10 | _ -> 0) | _ -> 5", "12")
	number(t, "let a = [|1|] in match a with b as c -> b.(0) <- 5; a.(0) + c.(0)", "10")
}

// Patterns are met from the left, and no longer than they are.
func TestDeepPatterns(t *testing.T) {
	number(t, "match ((1, 2), [3; 4], B 5, \"6\") with ((a, b), [c; d], B e, \"6\") -> a + b * 10 + c * 100 + d * 1000 + e * 10000 | _ -> 0", "54321")
	number(t, "match [[1]; []; [2; 3]] with [[a]; []; b :: [c]] -> a * 100 + b * 10 + c | _ -> 0", "123")
	number(t, "let f = function (0 | 1), y -> y | x, (2 | 3 as z) when x < 5 -> x + z | _ -> 9 in f (1, 4) * 100 + f (2, 3) * 10 + f (7, 2)", "459")
}

// P12.1: a KTry's first part, and what that raises.
func TestTries(t *testing.T) {
	number(t, "try 1 with _ -> 2", "1")
	number(t, "try raise N with _ -> 2", "2")
	number(t, "try raise N with E _ -> 1 | P _ -> 2 | Not_found -> 3 | N -> 4", "4")
	number(t, "try raise (P (3, B 4)) with E _ -> 1 | P (_, A) -> 2 | P (n, B m) -> n * 10 + m", "34")
	number(t, `try raise (E "abc") with E "ab" -> 1 | E s -> string_length s`, "3")
	number(t, "try raise N with e -> (try raise e with N -> 5)", "5")
	number(t, "try raise N with x when (print_int 1; false) -> 2 | N when (print_int 3; true) -> 4 | _ -> 5", "134")
	number(t, "try raise N with E _ | N -> 1 | _ -> 2", "1")
	number(t, "1 + (try 10 + raise N with N -> 2)", "3")
	number(t, "let f x = raise N in try f 1 + f 2 with N -> 3", "3")
	number(t, "let x = 1 in try (let y = 2 in let z = 3 in if y + z > 1 then raise N else 4) with N -> (let w = 5 in x * 10 + w)", "15")
	prints(t, `try print_int 1; raise (Failure "m") with Failure s -> print_string s`, "1m")
}

// Where no case is met, the same is raised further; so is what a case raises: its own KTry doesn't catch that.
func TestRaisedFurther(t *testing.T) {
	number(t, "try (try raise Not_found with End_of_file -> 1) with Not_found -> 2", "2")
	number(t, "try (try raise (E \"ab\") with N -> 1 | E \"a\" -> 2 | E s when string_length s = 3 -> 4) with E s -> string_length s + 5", "7")
	number(t, "try (try raise N with N -> raise Not_found) with Not_found -> 2 | N -> 3", "2")
	number(t, "try (try raise N with N -> raise N | _ -> 1) with N -> 3", "3")
	number(t, "try (try raise N with N when raise Not_found -> 1 | _ -> 4) with Not_found -> 2 | N -> 3", "2")
	number(t, "try (try (try raise N with E _ -> 1) with Not_found -> 2) with _ -> 3", "3")
	number(t, "(try 1 with N -> 2) + (try (try 3 with N -> 4); raise N with N -> 50)", "51")
	raises(t, "try raise N with Not_found -> () | E _ -> ()", "N", "")
	raises(t, "try raise N with _ when false -> ()", "N", "")
	raises(t, "try raise N with N -> print_int 1; raise (E \"\")", "E", "1")
	raises(t, "(try () with N -> print_int 1); raise N", "N", "")
	raises(t, "(try raise N with N -> print_int 1); raise N", "N", "1")
	raises(t, "raise (raise N)", "N", "")
}

// A raise leaves all that is under way, wherever it is.
func TestRaisesFromWithin(t *testing.T) {
	for _, s := range []string{
		"(1, raise N, print_int 2)", "[raise N; 2]", "[|1; raise N|]", "{x = 1; y = raise N; z = 2}", "(raise N).x", "{x = 1; y = A; z = 2}.z <- raise N",
		"[|1|].(raise N)", "(raise N).(0)", "[|1|].(0) <- raise N", "(raise N) 1", "print_int (raise N)", "(fun x -> fun y -> raise N) 1 2", "let x = raise N in x", "if raise N then 1 else 2",
		"match raise N with _ -> 1", "match 1 with _ when raise N -> 1", "while raise N do () done", "while true do raise N done", "for i = 1 to raise N do () done", "for i = raise N downto 1 do () done",
		"for i = 1 to 2 do raise N done", "raise N; 1", "1; raise N", "1 + raise N", "raise N = 1", "\"a\" ^ raise N", "ref (raise N)", "!(raise N)", "ref 1 := raise N", "not (raise N)", "- (raise N)",
		"(let rec f x = if x = 0 then raise N else f (x - 1) + 1 in f 5)", "compare (raise N) 1", "B (raise N)", "1 :: raise N", "raise N && true", "true && raise N", "false || raise N",
	} {
		out := ""
		if s == "(1, raise N, print_int 2)" {
			out = "2"
		}
		raises(t, s, "N", out)
		prints(t, "try ("+s+"); print_int 7 with N -> print_int 8", out+"8")
	}
}

// P12.1: what nobody catches is told by its constructor's name, built in or declared, and by nothing else.
func TestUncaught(t *testing.T) {
	for _, s := range []string{"Match_failure", "Division_by_zero", "Invalid_argument", "End_of_file", "Not_found", "N"} {
		raises(t, "print_int 1; raise "+s, s, "1")
	}
	raises(t, "raise (Failure \"abc\")", "Failure", "")
	raises(t, "raise (E \"abc\")", "E", "")
	raises(t, "raise (P (1, A))", "P", "")
	comes(t, "exception A let f x = raise x exception B of int exception C exception D of int let _ = f (D 1)", uncaught("D", ""))
	comes(t, "exception A let f x = raise x exception B of int exception C exception D of int let _ = f C", uncaught("C", ""))
	comes(t, "exception Failing of exn let _ = raise (Failing (Failing Not_found))", uncaught("Failing", ""))
}
