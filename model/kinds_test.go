package model_test

import (
	"testing"

	"grapnel/model"
)

// The chapter's examples.
func TestExamples(t *testing.T) {
	comes(t, "let _ = (print_int 1; 2) + (print_int 3; 4)", done("31"))
	comes(t, "let f x y = x let g = f 1 let _ = print_int (g 2)", done("1"))
	comes(t, "let _ = match [1] with [] -> ()", uncaught("Match_failure", ""))
	comes(t, "let _ = exit 300", model.Ending{Kind: model.Ended, Code: 44})
	comes(t, `let _ = raise (Failure "x")`, uncaught("Failure", ""))
	comes(t, "let _ = print_string (read_line ()); read_line ()",
		model.Ending{Kind: model.Uncaught, Exn: "End_of_file", Out: "a", Read: 1}, "a")
}

// The document's ten examples, as far as they run without a machine.
func TestExamplesOfTheWhole(t *testing.T) {
	comes(t, "let _ = print_string (read_line ())", model.Ending{Kind: model.Ended, Out: "a", Read: 1}, "a")
	comes(t, "let rec f n = if n = 0 then 0 else n + f (n - 1) let _ = print_int (f 20)", done("210"))
	comes(t, "let rec loop n = if n = 0 then exit 3 else loop (n - 1) let _ = loop 5000", model.Ending{Kind: model.Ended, Code: 3})
	comes(t, "let id x = x let _ = print_int (id id id 4)", done("4"))
	comes(t, `let _ = try print_int (1 / 0) with Division_by_zero -> print_string "zero"`, done("zero"))
	comes(t, `type r = {mutable a : int} let x = {a = 1} let _ = match x with {a = 1} when (x.a <- 2; false) -> () | {a = 2} -> print_string "anew" | _ -> ()`, done("anew"))
}

// P12.1: what comes to a value is Ended with 0, whatever the value is.
func TestValuesAtTheEnd(t *testing.T) {
	for _, s := range []string{"", "let x = 1", "let f x = x", "let _ = 300", `let _ = "abc"`, "let _ = (1, 2)", "let _ = Not_found", "let _ = fun x -> x", "let _ = print_int", "let _ = [||]"} {
		isTyped(t, s)
		comes(t, s, done(""))
	}
}

func TestConstants(t *testing.T) {
	number(t, "0", "0")
	number(t, "4611686018427387903", "4611686018427387903")
	number(t, "- 4611686018427387903 - 1", "-4611686018427387904")
	prints(t, `print_string ""`, "")
	prints(t, `print_string "a\"\\\n\t\x00\xff b"`, "a\"\\\n\t\x00\xff b")
}

// Booleans, the unit, `[]` and constructors without anything are numbers: their own.
func TestConstantsAreNumbers(t *testing.T) {
	for s, want := range map[string]string{
		"false": "0", "true": "1", "()": "0", "[]": "0", "A": "0", "D": "1",
		"Match_failure": "0", "Division_by_zero": "1", "Invalid_argument": "2", "End_of_file": "3", "Not_found": "4", "N": "5",
	} {
		comes(t, head+"let _ = print_int "+s, done(want))
	}
}

// What is of something is a block of the constructor's number, with the one field; `::` of 0, with two.
func TestBlocks(t *testing.T) {
	number(t, "match B 7 with B n -> n | _ -> 0", "7")
	number(t, "match C (B 7, D) with C (B n, D) -> n | _ -> 0", "7")
	number(t, "match [7; 8] with [x; y] -> 10 * x + y | _ -> 0", "78")
	number(t, "match (1, 2, 3) with (x, y, z) -> 100 * x + 10 * y + z", "123")
	number(t, "match {x = 7; y = D; z = 8} with {z = 8; x = n} -> n | _ -> 0", "7")
	for s, hashed := range map[string]string{ // 31 * 7 + 5 * tag + size, then the fields
		"[7]": "(((31 * 7 + 2) * 31 + 7) * 31 + 0)", "B 7": "((31 * 7 + 1) * 31 + 7)",
		"C (A, D)": "(((31 * 7 + 5 + 1) * 31 + 2) * 31 + 0) * 31 + 1", "(7, 8)": "((31 * 7 + 2) * 31 + 7) * 31 + 8",
		"[|7; 8; 9|]": "(((31 * 7 + 3) * 31 + 7) * 31 + 8) * 31 + 9", "[||]": "31 * 7", "ref 7": "(31 * 7 + 1) * 31 + 7",
		"{x = 1; y = D; z = 3}": "(((31 * 7 + 3) * 31 + 1) * 31 + 1) * 31 + 3", `E "a"`: "((31 * 7 + 5 + 1) * 31 + 3) * 31 + 97",
		`Failure "a"`: "((31 * 7 + 1) * 31 + 3) * 31 + 97", "P (1, A)": "(((31 * 7 + 10 + 1) * 31 + 2) * 31 + 1) * 31 + 0",
	} {
		prints(t, "if hash ("+s+") = "+hashed+" then print_int 1", "1")
	}
}

// Parts are worked out from the right, the last one first.
func TestFromTheRight(t *testing.T) {
	says := "let a n = print_int n; n let s n = print_int n; \"s\" let l n = print_int n; [||] let u n = print_int n; A let r n = print_int n; {x = n; y = A; z = n} let o n = print_int n; ref 1 let b n = print_int n; true " +
		"let f n = print_int n; fun x y z -> () let j n = print_int n; [|1; 2; 3; 4; 5|] "
	for s, want := range map[string]string{
		"(a 1, a 2, a 3)": "321", "[a 1; a 2; a 3]": "321", "[|a 1; a 2; a 3|]": "321", "a 1 :: a 2 :: [a 3]": "321",
		"C (u 1, u 2)": "21", "P (a 1, u 2)": "21",
		"{x = a 1; y = u 2; z = a 3}": "321", "{z = a 1; x = a 2; y = u 3}": "132", "{y = u 1; z = a 2; x = a 3}": "213",
		"(r 1).y <- u 2": "21", "(j 1).(a 2)": "21", "(j 1).(a 2) <- a 3": "321",
		"(f 1) (a 2) (a 3) (a 4)": "4321", "(f 1) (a 2) (a 3)": "321", "(f 1) (a 2)": "21",
		"a 1 + a 2": "21", "a 1 - a 2": "21", "a 1 * a 2": "21", "a 1 / a 2": "21", "a 1 mod a 2": "21",
		"a 1 = a 2": "21", "a 1 <> a 2": "21", "a 1 < a 2": "21", "a 1 > a 2": "21", "a 1 <= a 2": "21", "a 1 >= a 2": "21",
		"s 1 ^ s 2": "21", "s 1 ^ s 2 ^ s 3": "321", "o 1 := a 2": "21", "a 1 + a 2 + a 3": "321",
		"compare (a 1) (a 2)": "21", "string_get (s 1) (a 0)": "01", "array_make (a 1) (a 2)": "21",
		"for i = a 1 to a 0 do () done": "01", "for i = a 0 downto a 1 do () done": "10",
	} {
		shows(t, says+"let _ = "+s, want)
	}
}

// Where something is chosen, it is worked out in the order in which it comes to be needed, and nothing else is.
func TestAsNeeded(t *testing.T) {
	says := "let a n = print_int n; n let b n = print_int n; true let n n = print_int n; false let l n = print_int n; [n] "
	for s, want := range map[string]string{
		"if b 1 then a 2 else a 3": "12", "if n 1 then a 2 else a 3": "13", "if b 1 then print_int 2": "12", "if n 1 then print_int 2": "1",
		"b 1 && b 2": "12", "n 1 && b 2": "1", "b 1 || b 2": "1", "n 1 || b 2": "12", "n 1 || n 2 || b 3 && n 4 && b 5": "1234",
		"a 1; a 2; a 3": "123", "let x = a 1 in let y = a 2 in a 3": "123", "let x = a 1 and y = a 2 in a 3": "213",
		"match a 1 with 2 -> a 3 | _ -> a 4": "14", "match a 1 with 1 when n 2 -> a 3 | 1 when b 4 -> a 5 | _ -> a 6": "1245",
		"try a 1 with _ -> a 2": "1", "try a 1; raise N with End_of_file -> a 2 | N when n 3 -> a 4 | _ when b 5 -> a 6 | _ -> a 7": "1356",
		"raise (a 1; N) = ()": "1", "let rec f x = a x and g x = f 2 in g (a 1)": "12",
		"(fun x -> a 2) (a 1)": "12", "(fun x y -> a 1) (a 2)": "2",
	} {
		s = head + says + "let _ = " + s
		isTyped(t, s)
		if got := run(t, s, enough); got.Out != want {
			t.Errorf("%s: got %+v, want %s", s, got, want)
		}
	}
}

func TestLets(t *testing.T) {
	number(t, "let x = 1 in let y = x + 1 in let x = y + 5 in x + y", "9")
	number(t, "(let x = 1 in x) + (let y = 20 in let x = 3 in x + y)", "24")
	number(t, "let x = 1 in (let x = 2 in x * 10) + x", "21")
	number(t, "let (x, y) = (1, 2) and [z] = [3] in 100 * x + 10 * y + z", "123")
	shows(t, "let x = 1 let x = x + 1 and y = x let _ = print_int x; print_int y", "21")
	shows(t, "let x = 1 let f y = x + y let x = 100 let _ = print_int (f 2); print_int x", "3100")
	raises(t, "let B x = A in x", "Match_failure", "")
	raises(t, "let [x] = [] in x", "Match_failure", "")
	raises(t, "(fun (B x) -> x) D", "Match_failure", "")
	raises(t, "let f 1 x = x in f (print_int 7; 2) (print_int 8)", "Match_failure", "87")
	prints(t, "let f 1 x = x in f (print_int 7; 2); print_int 8", "78") // it lacks one: its body isn't worked out
}

func TestRec(t *testing.T) {
	number(t, "let rec f n = if n = 0 then 0 else n + f (n - 1) in f 100", "5050")
	number(t, "let rec e n = n = 0 || o (n - 1) and o n = n <> 0 && e (n - 1) in if e 101 then 1 else if o 101 then 2 else 3", "2")
	number(t, "let rec f x y = if x = 0 then y else f (x - 1) (y + x) and g = function 0 -> 1 | n -> n * g (n - 1) in f 4 (g 5)", "130")
	number(t, "let k = 7 in let rec f n = if n = 0 then k else g (n - 1) and g n = if n = 0 then k + 1 else h (n - 1) and h n = if n = 0 then k + 2 else f (n - 1) in f 0 + 10 * f 1 + 100 * f 2", "987")
	number(t, "let rec f n = let k = n * 2 in let rec g m = if m = 0 then k else 1 + g (m - 1) in if n = 0 then 0 else g n + f (n - 1) in f 3", "18")
	comes(t, "let rec f x = f let _ = (f 1) 2 3 4 5", done("")) // though it has no type
}

// Fields are places: what is changed under one name is changed under the other one, and in nothing that was made by itself.
func TestChanges(t *testing.T) {
	number(t, "let a = {x = 1; y = A; z = 3} in let b = a in let c = {x = 1; y = A; z = 3} in a.z <- 7; b.y <- B 5; (match a with {y = B n} -> n | _ -> 0) + 10 * b.z + 100 * c.z", "375")
	number(t, "let a = [|1; 2|] in let b = a in let c = [|1; 2|] in b.(1) <- 7; a.(1) * 10 + c.(1)", "72")
	number(t, "let r = ref 1 in let s = r in let q = ref !r in s := 5; !r * 10 + !q", "51")
	number(t, "let a = array_make 3 (ref 0) in a.(0) := 7; !(a.(1)) + !(a.(2))", "14")
	number(t, "let a = array_make 3 [||] in a.(0) <- [|1|]; array_length a.(0) * 10 + array_length a.(1)", "10")
	number(t, "let f u = ref u in let a = f 1 in let b = f 1 in a := 2; !b", "1")
	number(t, "let a = [|0; 1|] in match a.(0) with n -> a.(0) <- 5; n * 10 + a.(0)", "5")
	number(t, "let r = {x = 1; y = A; z = 1} in match r with {z = n} -> r.z <- 9; n * 10 + r.z", "19")
	prints(t, "(ref 1) := 2", "")
	number(t, "let r = ref (fun x -> x) in let f = (fun x -> if x = 0 then 7 else !r (x - 1)) in r := f; f 5", "7")
}

func TestFieldsAndElements(t *testing.T) {
	number(t, "{x = 7; y = D; z = 8}.x", "7")
	number(t, "{x = 7; y = D; z = 8}.z", "8")
	number(t, "[|5; 6; 7|].(0) * 100 + [|5; 6; 7|].(2)", "507")
	prints(t, "let a = [|5; 6; 7|] in a.(2) <- 1; a.(0) <- 2; print_int a.(0); print_int a.(1); print_int a.(2)", "261")
	for _, i := range []string{"-1", "3", "4611686018427387903", "- 4611686018427387903 - 1"} {
		raises(t, "[|5; 6; 7|].("+i+")", "Invalid_argument", "")
		raises(t, "[|5; 6; 7|].("+i+") <- (print_int 1; 2)", "Invalid_argument", "1")
	}
	raises(t, "[||].(0)", "Invalid_argument", "")
	raises(t, "[||].(0) <- 1", "Invalid_argument", "")
}

func TestLoops(t *testing.T) {
	prints(t, "let r = ref 1 in while !r < 100 do print_int !r; r := !r * 3 done", "1392781")
	prints(t, "while false do print_int 1 done", "")
	prints(t, "while print_int 1; false do print_int 2 done", "1")
	prints(t, "for i = 3 downto 1 do print_int i done", "321")
	prints(t, "for i = -1 to 2 do print_int i done", "-1012")
	prints(t, "for i = 2 to 2 do print_int i done; for i = 2 downto 2 do print_int i done", "22")
	prints(t, "for i = 2 to 1 do print_int i done; for i = 1 downto 2 do print_int i done", "")
	prints(t, "let a = 4611686018427387903 in for i = a - 1 to a do print_int i; print_string \" \" done", "4611686018427387902 4611686018427387903 ")
	prints(t, "let a = - 4611686018427387903 - 1 in for i = a + 1 downto a do print_int i; print_string \" \" done", "-4611686018427387903 -4611686018427387904 ")
	prints(t, "let a = ref 3 in for i = 1 to !a do a := 0; print_int i done", "123")
	prints(t, "for i = 1 to 2 do for j = i downto 0 do print_int j done done", "10210")
	prints(t, "let l = ref [] in for i = 1 to 3 do l := (fun u -> print_int i) :: !l done; match !l with [a; b; c] -> a (); b (); c ()", "321")
	prints(t, "match (while false do () done), (for i = 1 to 2 do i done) with (), () -> print_int 1", "1")
	raises(t, "for i = 1 to 5 do if i = 3 then raise N; print_int i done", "N", "12")
	raises(t, "while true do raise N done", "N", "")
}

func TestCaptures(t *testing.T) {
	number(t, "let f x = let y = x * 2 in fun z -> let w = z + 1 in fun v -> x + 10 * y + 100 * z + 1000 * w + 10000 * v in f 1 2 3", "33221")
	number(t, "let f = let x = 3 in fun y -> x + y in let x = 100 in f x", "103")
	number(t, "match 1, 2 with x, y -> let f = (fun z -> x + y * z) in match 3, 4 with x, y -> f x + y", "11")
	number(t, "let f = try raise (E \"ab\") with E s -> (fun u -> string_length s) in f ()", "2")
	number(t, "let f (x, y) z = fun (a, b) -> x + 10 * y + 100 * z + 1000 * a + 10000 * b in f (1, 2) 3 (4, 5)", "54321")
}
