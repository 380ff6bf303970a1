package core_test

import (
	"testing"

	"grapnel/api"
)

// P9.1: what is wrong with what is declared.

func TestDeclaredTwice(t *testing.T) {
	for _, s := range []string{"int", "bool", "unit", "string", "exn", "list", "ref", "array"} {
		isFault(t, "type "+s+" = A", api.ErrTwice, 0)
		isFault(t, "type "+s+" = {a : int}", api.ErrTwice, 0)
	}
	isFault(t, "type t = A type t = B", api.ErrTwice, 11)
	isFault(t, "type t = A type t = {a : int}", api.ErrTwice, 11)
	isFault(t, "type t = {a : int} type t = B", api.ErrTwice, 19)
	for _, s := range []string{"Match_failure", "Division_by_zero", "Invalid_argument", "End_of_file", "Not_found", "Failure"} {
		isFault(t, "exception "+s, api.ErrTwice, 0)
		isFault(t, "exception "+s+" of int", api.ErrTwice, 0)
		isFault(t, "type t = A | "+s, api.ErrTwice, 13)
	}
	isFault(t, "type t = A | A", api.ErrTwice, 13)
	isFault(t, "type t = A | B of int | B", api.ErrTwice, 24)
	isFault(t, "type t = A type u = A", api.ErrTwice, 20)
	isFault(t, "exception A exception A", api.ErrTwice, 12)
	isFault(t, "exception A type t = A", api.ErrTwice, 21)
	isFault(t, "type t = A exception A of int", api.ErrTwice, 11)
	isFault(t, "type t = {a : int; a : int}", api.ErrTwice, 19)
	isFault(t, "type t = {a : int} type u = {b : int; mutable a : int}", api.ErrTwice, 38)
}

// A type's name stands ahead of what is in it, and each item ahead of those behind it.
func TestOrderOfDeclaredTwice(t *testing.T) {
	isFault(t, "type int = A | A", api.ErrTwice, 0)
	isFault(t, "type int = {a : int; a : int}", api.ErrTwice, 0)
	isFault(t, "type t = A | A type t = B", api.ErrTwice, 13)
	isFault(t, "exception A exception A type int = B", api.ErrTwice, 12)
}

func TestTypesThatAreNot(t *testing.T) {
	isFault(t, "type t = A of u", api.ErrName, 14)
	isFault(t, "type t = {a : u}", api.ErrName, 14)
	isFault(t, "exception A of u", api.ErrName, 15)
	isFault(t, "type t = A of u type u = B", api.ErrName, 14)
	isFault(t, "exception A of u type u = B", api.ErrName, 15)
	isFault(t, "type t = {a : u} type u = {b : t}", api.ErrName, 14)
	for _, s := range []string{"list", "ref", "array"} {
		isFault(t, "type t = A of "+s, api.ErrName, 14)
		isFault(t, "type t = A of "+s+" list", api.ErrName, 14)
	}
	isFault(t, "type t = A of int t", api.ErrName, 18)
	isFault(t, "type t = A of int int", api.ErrName, 18)
	isFault(t, "type t = A of int list u", api.ErrName, 23)
	isFault(t, "type t = A of int -> u", api.ErrName, 21)
	isFault(t, "type t = A of int * u * v", api.ErrName, 20)
	isFault(t, "type t = A of u -> int", api.ErrName, 14)
	isFault(t, "type t = A of u list", api.ErrName, 14)
}

// Each node of a type is asked for ahead of its parts, and types from the left.
func TestOrderOfTypes(t *testing.T) {
	isFault(t, "type t = A of u v", api.ErrName, 16)
	isFault(t, "type t = A of u list v", api.ErrName, 21)
	isFault(t, "type t = A of (u w) v", api.ErrName, 20)
	isFault(t, "type t = A of u -> v", api.ErrName, 14)
	isFault(t, "type t = A of int | B of u | C of v", api.ErrName, 25)
	isFault(t, "type t = {a : int; b : u; c : v}", api.ErrName, 23)
	isFault(t, "exception A of int exception B of u type t = C of v", api.ErrName, 34)
}

// What is declared is asked for in all items ahead of the types in them, and these ahead of the lets.
func TestOrderOfRounds(t *testing.T) {
	isFault(t, "let _ = x type t = A of u type t = B", api.ErrTwice, 26)
	isFault(t, "let _ = x type t = A of u exception A", api.ErrTwice, 26)
	isFault(t, "let _ = x type t = A of u type v = {a : int; a : int}", api.ErrTwice, 45)
	isFault(t, "let _ = x type t = A of u "+variant("v", 201), api.ErrMany, 26)
	isFault(t, "let _ = x type t = A of u", api.ErrName, 24)
	isFault(t, "let (a, a) = 1 let _ = x type t = A", api.ErrTwice, 8)
	isFault(t, "type t = A let _ = x let _ = y", api.ErrName, 19)
}

// P9.1: what is wrong with the lets.

func TestNamesThatAreNot(t *testing.T) {
	isFault(t, "let _ = x", api.ErrName, 8)
	isFault(t, "let x = x", api.ErrName, 8)
	isFault(t, "let f x = f", api.ErrName, 10)
	isFault(t, "let a = 1 and b = a", api.ErrName, 18)
	isFault(t, "let _ = y let y = 1", api.ErrName, 8)
	isFault(t, "let _ = (fun x -> x) x", api.ErrName, 21)
	isFault(t, "let _ = match 1 with x -> x | y -> x", api.ErrName, 35)
	isFault(t, "let _ = match x with x -> x", api.ErrName, 14)
	isFault(t, "let _ = (let x = 1 in x), x", api.ErrName, 26)
	isFault(t, "let _ = (let rec f x = x in x), f", api.ErrName, 28)
	isFault(t, "let _ = let x = (fun y -> y) in y", api.ErrName, 32)
	isFault(t, "let _ = for i = i to 2 do i done", api.ErrName, 16)
	isFault(t, "let _ = for i = 1 to i do i done", api.ErrName, 21)
	isFault(t, "let _ = for i = 1 to 2 do i done; i", api.ErrName, 34)
	isFault(t, "let _ = fun _ -> _x", api.ErrName, 17)
	isFault(t, `let _ = fun "x" -> x`, api.ErrName, 19)
	isFault(t, "let _ = list", api.ErrName, 8)
	isFault(t, "type r = {a : int} let _ = a", api.ErrName, 27)
}

func TestRefOtherwise(t *testing.T) {
	isFault(t, "let _ = ref", api.ErrForm, 8)
	isFault(t, "let _ = ref 1 2", api.ErrForm, 8)
	isFault(t, "let _ = ref 1 2 3", api.ErrForm, 8)
	isFault(t, "let _ = ref x 2", api.ErrForm, 8)
	isFault(t, "let _ = hash ref", api.ErrForm, 13)
	isFault(t, "let _ = ref ref", api.ErrForm, 12)
	isFault(t, "let _ = ref x", api.ErrName, 12)
	isFault(t, "let ref = ref", api.ErrForm, 10)
	isFault(t, "let _ = (fun ref -> ref) ref", api.ErrForm, 25)
}

func TestConstructorsThatAreNot(t *testing.T) {
	isFault(t, "let _ = A", api.ErrName, 8)
	isFault(t, "let A = 1", api.ErrName, 4)
	isFault(t, "let _ = A x", api.ErrName, 8)
	isFault(t, "let (A (x, x)) = 1", api.ErrName, 5)
	isFault(t, "let _ = A type t = A", api.ErrName, 8)
	isFault(t, "let _ = A exception A", api.ErrName, 8)
	isFault(t, "let _ = function A -> 1 type t = A", api.ErrName, 17)
	isFault(t, "let _ = Not_found 1", api.ErrForm, 8)
	isFault(t, "let _ = Not_found x", api.ErrForm, 8)
	isFault(t, "let _ = Failure", api.ErrForm, 8)
	isFault(t, "let Not_found 1 = 1", api.ErrForm, 4)
	isFault(t, "let Failure = 1", api.ErrForm, 4)
	isFault(t, "type t = A | B of int let _ = A 1", api.ErrForm, 30)
	isFault(t, "type t = A | B of int let _ = B", api.ErrForm, 30)
	isFault(t, "type t = A | B of int let _ = (B) 1", api.ErrForm, 31)
	isFault(t, "type t = A | B of int let _ = function B -> 1", api.ErrForm, 39)
	isFault(t, "type t = A | B of int let _ = function A _ -> 1", api.ErrForm, 39)
}

func TestLabelsThatAreNot(t *testing.T) {
	isFault(t, "let _ = 1.a", api.ErrName, 9)
	isFault(t, "let _ = x.a", api.ErrName, 9)
	isFault(t, "let _ = x.a <- y", api.ErrName, 12)
	isFault(t, "let _ = 1.a type r = {a : int}", api.ErrName, 9)
	isFault(t, "let _ = 1.a <- 2 type r = {mutable a : int}", api.ErrName, 12)
	isFault(t, "type r = {a : int} let _ = 1.a <- 2", api.ErrForm, 31)
	isFault(t, "type r = {a : int} let _ = x.a <- y", api.ErrForm, 31)
	isFault(t, "type r = {mutable a : int; b : int} let _ = 1.b <- 2", api.ErrForm, 48)
	isFault(t, "type r = {a : int} let _ = x.a", api.ErrName, 27)
	isFault(t, "type r = {mutable a : int} let _ = x.a <- y", api.ErrName, 35)
	isFault(t, "type r = {mutable a : int} let _ = 1.a <- y", api.ErrName, 42)
}

const records = "type r = {a : int; b : int} type q = {c : int} " // 47 bytes

func TestRecordsThatAreNot(t *testing.T) {
	isFault(t, "let _ = {a = 1}", api.ErrName, 9)
	isFault(t, "let _ = {a = 1} type r = {a : int}", api.ErrName, 9)
	isFault(t, records+"let _ = {d = 1}", api.ErrName, 56)
	isFault(t, records+"let _ = {a = 1; d = 2}", api.ErrName, 63)
	isFault(t, records+"let _ = {a = 1; c = 2}", api.ErrName, 63)
	isFault(t, records+"let _ = {c = 1; b = 2; a = 3}", api.ErrName, 63)
	isFault(t, "type q = {c : int} let _ = {c = 1; a = 2} type r = {a : int}", api.ErrName, 35)
	isFault(t, records+"let _ = {a = 1; a = 2}", api.ErrTwice, 63)
	isFault(t, records+"let _ = {a = 1; b = 2; a = 3; d = 4}", api.ErrTwice, 70)
	isFault(t, records+"let _ = {a = 1; d = 2; a = 3}", api.ErrName, 63)
	isFault(t, records+"let _ = {a = 1}", api.ErrForm, 55)
	isFault(t, records+"let _ = {b = 1;}", api.ErrForm, 55)
	isFault(t, records+"let _ = {a = x}", api.ErrForm, 55)
	isFault(t, records+"let _ = {a = x; a = 1}", api.ErrTwice, 63)
	isFault(t, records+"let _ = {b = x; a = y}", api.ErrName, 60)
}

func TestRecordPatternsThatAreNot(t *testing.T) {
	isFault(t, "let {a = 1} = 1", api.ErrName, 5)
	isFault(t, "let {a = 1} = 1 type r = {a : int}", api.ErrName, 5)
	isFault(t, records+"let {d = 1} = 1", api.ErrName, 52)
	isFault(t, records+"let {a = 1; c = 1} = 1", api.ErrName, 59)
	isFault(t, records+"let {a = 1; a = 1} = 1", api.ErrTwice, 59)
	isFault(t, records+"let {a = 1; b = 2; a = 3; d = 4} = 1", api.ErrTwice, 66)
	isFault(t, records+"let {a = A; c = 1} = 1", api.ErrName, 59)
	isFault(t, records+"let {a = x; b = x} = 1", api.ErrTwice, 63)
	isFault(t, records+"let {b = x; a = x} = 1", api.ErrTwice, 63)
	isFault(t, records+"let {b = A; a = B} = 1", api.ErrName, 56)
}

func TestWaysThatBindOtherNames(t *testing.T) {
	isFault(t, "let (x | 1) = 1", api.ErrName, 7)
	isFault(t, "let (1 | x) = 1", api.ErrName, 7)
	isFault(t, "let (x | y) = 1", api.ErrName, 7)
	isFault(t, "let (x, y | x) = 1", api.ErrName, 10)
	isFault(t, "let (x | 1 as x) = 1", api.ErrName, 7)
	isFault(t, "let ((1 as x) | 1) = 1", api.ErrName, 14)
	isFault(t, "let (x | {a = x}) = 1 type x = {a : int}", api.ErrName, 10)
	isFault(t, "let (x | y), x = 1", api.ErrName, 7)
	isFault(t, "let _ = fun (x | 1) -> x", api.ErrName, 15)
}

// A POr is asked for ahead of its ways: all names that stand in a way count.
func TestOrderOfWays(t *testing.T) {
	isFault(t, "let (x, x | 1) = 1", api.ErrName, 10)
	isFault(t, "let (A | x) = 1", api.ErrName, 7)
	isFault(t, "let (1 | 2 | x) = 1", api.ErrName, 7)
	isFault(t, "let (x | x | 2) = 1", api.ErrName, 11)
	isFault(t, "let ((1 | x) | x) = 1", api.ErrName, 8)
	isFault(t, "let (x, y | x, x) = 1", api.ErrName, 10)
	isFault(t, "let (x, y | x, x, y) = 1", api.ErrTwice, 15)
	isFault(t, "let (x, x, y | y, x) = 1", api.ErrTwice, 8)
	isFault(t, "let (A | B) = 1", api.ErrName, 5)
	isFault(t, "let (1 | B) = 1", api.ErrName, 9)
}

func TestNamesBoundTwice(t *testing.T) {
	isFault(t, "let (a, a) = 1", api.ErrTwice, 8)
	isFault(t, "let (a, (b, a)) = 1", api.ErrTwice, 12)
	isFault(t, "let [a; a] = 1", api.ErrTwice, 8)
	isFault(t, "let a :: a = 1", api.ErrTwice, 9)
	isFault(t, "let (a as a) = 1", api.ErrTwice, 5)
	isFault(t, "let ((a, b) as b) = 1", api.ErrTwice, 9)
	isFault(t, "let (a, (1 as a)) = 1", api.ErrTwice, 11)
	isFault(t, "let (1 as a as a) = 1", api.ErrTwice, 7)
	isFault(t, "let ((x | x), x) = 1", api.ErrTwice, 14)
	isFault(t, "let (x, (x | x)) = 1", api.ErrTwice, 9)
	isFault(t, "let (x, (y | y), x) = 1", api.ErrTwice, 17)
	isFault(t, "let (x | x as x) = 1", api.ErrTwice, 5)
	isFault(t, "let ((x, y) | (y, x)), y = 1", api.ErrTwice, 23)
	isFault(t, "let a = 1 and a = 2", api.ErrTwice, 14)
	isFault(t, "let (a, b) = 1 and c = 2 and b = 3", api.ErrTwice, 29)
	isFault(t, "let _ = let a = 1 and a = 2 in 3", api.ErrTwice, 22)
	isFault(t, "let _ = function (a, a) -> 1", api.ErrTwice, 21)
	isFault(t, "let _ = match 1 with a, a -> 1", api.ErrTwice, 24)
	isFault(t, "let _ = try 1 with a, a -> 1", api.ErrTwice, 22)
	isFault(t, "let _ = fun a (a, b) (b, b) -> 1", api.ErrTwice, 25)
}

func TestRecsThatAreNot(t *testing.T) {
	isFault(t, "let rec a = 1", api.ErrForm, 8)
	isFault(t, "let rec a = a", api.ErrForm, 8)
	isFault(t, "let rec (a, b) = fun x -> x", api.ErrForm, 8)
	isFault(t, "let rec _ = fun x -> x", api.ErrForm, 8)
	isFault(t, "let rec f x = x and b = f", api.ErrForm, 20)
	isFault(t, "let _ = let rec a = 1 in a", api.ErrForm, 16)
	isFault(t, "let rec f x = x and f y = y", api.ErrTwice, 20)
	isFault(t, "let rec f x = x and g y = y and f = function z -> z", api.ErrTwice, 32)
	isFault(t, "let rec f x = y", api.ErrName, 14)
}

// A rec's binds are asked for one by one, all of them ahead of its values.
func TestOrderOfRecs(t *testing.T) {
	isFault(t, "let rec f x = y and f y = y", api.ErrTwice, 20)
	isFault(t, "let rec f x = y and a = 1", api.ErrForm, 20)
	isFault(t, "let rec f x = x and f y = y and a = 1", api.ErrTwice, 20)
	isFault(t, "let rec a = 1 and f x = x and f y = y", api.ErrForm, 8)
	isFault(t, "let rec f x = x and f = 1", api.ErrForm, 20)
	isFault(t, "let rec (a, a) = fun x -> x", api.ErrForm, 8)
	isFault(t, "let rec f x = y and g x = z", api.ErrName, 14)
	isFault(t, "let rec f x = x and g x = z", api.ErrName, 26)
	isFault(t, "let rec f (a, a) = y and g x = z", api.ErrTwice, 14)
}

// Each node is asked for ahead of its parts, these in their order; a let's values ahead of its patterns.
func TestOrderOfNodes(t *testing.T) {
	isFault(t, "let (a, a) = x", api.ErrName, 13)
	isFault(t, "let (a, a) = 1 and b = x", api.ErrName, 23)
	isFault(t, "let (a, a) = x and b = y", api.ErrName, 13)
	isFault(t, "let A = 1 and (b, b) = 2", api.ErrName, 4)
	isFault(t, "let _ = let (a, a) = 1 in x", api.ErrTwice, 16)
	isFault(t, "let _ = let (a, a) = x in y", api.ErrName, 21)
	isFault(t, "let _ = let a = x in y", api.ErrName, 16)
	isFault(t, "let (a, a) = 1 let _ = x", api.ErrTwice, 8)
	isFault(t, "let _ = fun (a, a) -> x", api.ErrTwice, 16)
	isFault(t, "let _ = fun A (a, a) -> x", api.ErrName, 12)
	isFault(t, "let _ = function (a, a) when x -> y", api.ErrTwice, 21)
	isFault(t, "let _ = function _ when x -> y", api.ErrName, 24)
	isFault(t, "let _ = match x with A -> 1", api.ErrName, 14)
	isFault(t, "let _ = match 1 with A -> x | B -> 1", api.ErrName, 21)
	isFault(t, "let _ = match 1 with _ -> x | B -> 1", api.ErrName, 26)
	isFault(t, "let _ = try x with A -> 1", api.ErrName, 12)
	isFault(t, "let _ = x y", api.ErrName, 8)
	isFault(t, "let _ = x + y", api.ErrName, 8)
	isFault(t, "let _ = x || y", api.ErrName, 8)
	isFault(t, "let _ = 1 || y", api.ErrName, 13)
	isFault(t, "let _ = x && y", api.ErrName, 8)
	isFault(t, "let _ = [x; y]", api.ErrName, 9)
	isFault(t, "let _ = x :: y", api.ErrName, 8)
	isFault(t, "let _ = if x then y else z", api.ErrName, 11)
	isFault(t, "let _ = if 1 then y else z", api.ErrName, 18)
	isFault(t, "let _ = if 1 then z", api.ErrName, 18)
	isFault(t, "let _ = for i = x to y do z done", api.ErrName, 16)
	isFault(t, "let _ = for i = 1 to y do z done", api.ErrName, 21)
	isFault(t, "let _ = for i = 1 to 2 do z done", api.ErrName, 26)
	isFault(t, "let _ = while x do y done", api.ErrName, 14)
	isFault(t, "let _ = x; y", api.ErrName, 8)
	isFault(t, "let _ = - x", api.ErrName, 10)
	isFault(t, "let _ = raise x", api.ErrName, 14)
	isFault(t, "let _ = x.(y) <- z", api.ErrName, 8)
	isFault(t, "let _ = Failure x", api.ErrName, 16)
	isFault(t, "let Failure A = 1", api.ErrName, 12)
	isFault(t, "let [1; A; B] = 1", api.ErrName, 8)
}
