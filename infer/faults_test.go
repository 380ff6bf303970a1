package infer_test

import (
	"testing"

	"grapnel/api"
)

// allFaults holds that each of these has this error at its mark.
func allFaults(t *testing.T, want api.Errno, all ...string) {
	t.Helper()
	for _, s := range all {
		isFault(t, s, want)
	}
}

// P11.1: ErrType at each part of a block, a label, an element whose type is made another one.
func TestFaultsOfBlocks(t *testing.T) {
	allFaults(t, api.ErrType, "1 :: @2", "1 :: @[true]", "@[1; true]", "@[1; 2; true]", "1 :: true @:: []", "[] :: @[1]")
	allFaults(t, api.ErrType, "B @true", "C @1", "C (A@, 1)", "C (1@, (fun _ -> true))", "B (@fun x -> x)", "E @1", "P (1@, 2)", "Failure @1")
	allFaults(t, api.ErrType, "[|1; @true|]", "[|[]; [1]; @[true]; 1|]", `fun x -> [|x; 1; @"a"|]`)
	allFaults(t, api.ErrType, "{x = @true; y = A}", "{x = 1; y = @1}", "{y = @1; x = 1}", "{z = []; w = @1}", "{z = @[1]; w = 1}", "{y = 1; x = @true}")
	allFaults(t, api.ErrType, "(@1).x", "fun a -> a.x; @a.z", "(@A).y", "fun a -> (a@.x).x")
	allFaults(t, api.ErrType, "(@1).y <- A", "fun a -> a.y <- @1", "fun a -> a.z <- @a", "@{x = 1; y = A}.z <- []")
	allFaults(t, api.ErrType, "(@1).(0)", "(@[1]).(0)", "[|1|].(@true)", "fun a -> a.(0); a.(@a)")
	allFaults(t, api.ErrType, "(@1).(0) <- 1", "[|1|].(@true) <- 1", "[|1|].(0) <- @true", "fun a -> a.(0) <- 1; a.(1) <- @true")
}

// P11.1: ErrType at each part of what applies, binds or chooses whose type is made another one.
func TestFaultsOfGuides(t *testing.T) {
	allFaults(t, api.ErrType, "1 @2", "print_int @true", "(fun x y -> x + y) 1 @true", "(fun x y -> x + y) @true 1", "print_int 1 @2",
		"fun f -> f 1; f @true", "fun f -> f 1 2; f 1 @true", `string_get "a" @"b"`, "let x = 1 in x @2")
	allFaults(t, api.ErrType, `let rec f x = (g 1) + 1 and g @y = "a" in f`, "let rec f x = g x 1 and g = @function A -> 1 in f", "let rec f x = f 1; f @true in f")
	allFaults(t, api.ErrType, "if @1 then 2 else 3", "if true then 1 else @true", "@if true then 1", "@1 && true", "true @&& 1", "@1 || true", "true || @1", "fun x -> if x then x else @1")
	allFaults(t, api.ErrType, "match 1 with @true -> 1", "match [1] with [] -> 1 | @1 -> 2", "match 1 with _ when @1 -> 2", "match 1 with 1 -> 1 | _ -> @true",
		"fun x -> match x with 1 -> 2 | @true -> 3", "match 1 with (1@, 2) -> 1", "match 1 with x when @x -> 2", "match 1 with x -> not @x",
		`match (1, true) with (x, y) when y -> x | (x, _) -> @"a"`, "function 1 -> 2 | @true -> 3")
	allFaults(t, api.ErrType, "let (x@, y) = 1 in x", "fun (x, y) -> x + y; not @x", "@let x = 1 and true = 2 in x", "let x = 1 and y = true in @y + x")
	allFaults(t, api.ErrType, "try 1 with @1 -> 2", "try 1 with N -> 2 | @A -> 3", "try 1 with _ when @1 -> 2", "try 1 with _ -> @true", "try 1 with E s when @s -> 2", "try [] with N -> [1] | _ -> @[true]")
	allFaults(t, api.ErrType, "raise @1", "raise @A", "while @1 do () done", "for i = @true to 2 do () done", "for i = 1 to @true do () done", "for i = 1 downto @() do () done", "for i = 1 to 2 do not @i done")
}

// P11.1: ErrType at each part of an operation.
func TestFaultsOfOperations(t *testing.T) {
	allFaults(t, api.ErrType, "@true + 1", "1 + @true", "1 - @true", "1 * @true", "1 / @true", "1 mod @true", "- @true", "not @1", `@1 ^ "a"`, `"a" ^ @1`)
	allFaults(t, api.ErrType, "1 = @true", "1 <> @true", "1 < @true", "1 > @true", "1 <= @true", "1 >= @true")
	allFaults(t, api.ErrType, "!@1", "@1 := 2", "ref 1 := @true", "fun x -> x := 1; x := @true", "!(@[1])")
}

// P11.1: ErrType at each part of a pattern whose type is made another one.
func TestFaultsOfPatterns(t *testing.T) {
	allFaults(t, api.ErrType, "function 1 :: @2 -> 1", "function @[1; true] -> 1", "function 1 :: true @:: _ -> 1")
	allFaults(t, api.ErrType, "function B @true -> 1", "function C (A@, 1) -> 1", "function E @1 -> 1", "function P @1 -> 1", "function Failure @1 -> 1", "function (A, B @true) -> 1")
	allFaults(t, api.ErrType, "function {x = @true} -> 1", "function {y = @1; x = 1} -> 1", "function {y = 1; x = @true} -> 1", "function {z = @1} -> 1")
	allFaults(t, api.ErrType, "function (1 | @true) -> 1", "function (1 | 2 | @true) -> 1", "function (true | 1 @| 2) -> 1", "function ((1 | 2) | @true) -> 1", "function (x, 1) | (true@, x) -> x", "function ([] | @1) -> 1")
	allFaults(t, api.ErrType, "function ((1 as x), _) | ((@true as x), _) -> x", "function (((1 | 2) as x) | ((3 | @A) as x)) -> x")
}

// P11.1: ErrOccurs, wherever two types are made one of which one stands within the other one.
func TestOccurs(t *testing.T) {
	allFaults(t, api.ErrOccurs, "fun x -> x @x", "fun x y -> x y (@x y)", "let rec f @x = f in f", "let rec f @x = [f] in f", "let rec f x = g and g @y = f in g")
	allFaults(t, api.ErrOccurs, "fun x -> x = @[x]", "fun x -> [x] = @x", "fun x -> @[x; [x]]", "fun x -> x :: @x", "fun x -> [|x; @[|x|]|]", "fun x -> x := @x", "fun x -> x.(0) <- @x")
	allFaults(t, api.ErrOccurs, "fun x -> if true then x else (x@, 1)", "fun x -> match x with y :: _ -> y = @x", "fun x -> match 1 with 1 -> x | _ -> @[x]", "fun x -> try x with _ -> @[x]")
	allFaults(t, api.ErrOccurs, "fun x -> match [x] with y -> x = @y", "function ([x; y] | [(@[x] as y); _]) -> 1", "function (x, y) | ((x :: _ as y)@, _) -> 1")
	allFaults(t, api.ErrOccurs, "fun f -> fun x -> f (x @x)")
}

// P11.1: of several errors the first one from the left is told, each part being asked for as soon as its type is found.
func TestFirstFromTheLeft(t *testing.T) {
	allFaults(t, api.ErrType, "(1 @1, 1 1)", "(1, 1 @1, 1 1)", "[1 @1; 1 1]", "[1; 1 @1; true]", "1 @1 :: 1 1", "[|1 @1; 1 1|]", "[|1; @true; 1 1|]", "B (1 @1)",
		"{x = 1 @1; y = 1 1}", "{x = @true; y = 1 1}", "{y = 1 1; x = 1 @1}", "{y = 1 1; x = @true}")
	allFaults(t, api.ErrType, "(1 @1).x", "(1 @1).y <- 1 1", "(@1).y <- 1 1", "(1 @1).(1 1)", "(@1).(1 1)", "(1 @1).(1 1) <- 1 1", "(@1).(1 1) <- 1 1", "[||].(@true) <- 1 1", "[||].(1 @1) <- 1 1")
	allFaults(t, api.ErrType, "(1 @1) (1 1)", "print_int @true (1 1)", "print_int (1 @1) (1 1)", "1 (1 @1)", "fun x y -> 1 @1; 1 1")
	allFaults(t, api.ErrType, "let x = 1 @1 in 1 1", "let x = 1 in 1 @1", "let rec f x = 1 @1 and g x = 1 1 in 1 1", "let rec f x = g 1 2 and g @x = 1 and h x = 1 1 in 1 1", "let rec f x = 1 in 1 @1")
	isFault(t, "let rec f @x = f and g y = 1 1 in 1 1", api.ErrOccurs)
	allFaults(t, api.ErrType, "if 1 @1 then 1 1 else 1 1", "if @1 then 1 1 else 1 1", "if true then 1 @1 else 1 1", "if true then 1 else 1 @1")
	allFaults(t, api.ErrType, "match 1 @1 with A -> 1 1", "match 1 with @A when 1 -> 1 1", "match 1 with 1 when @1 -> 1 1", "match 1 with 1 when 1 @1 -> 1 1", "match 1 with 1 -> 1 @1 | A -> 1", "match 1 with 1 -> 1 | 2 -> @true | A -> 1")
	allFaults(t, api.ErrType, "try 1 @1 with A -> 1 1", "try 1 with @A when 1 -> 1 1", "try 1 with N when @1 -> 1 1", "try 1 with N -> @true | A -> 1")
	allFaults(t, api.ErrType, "raise (1 @1)", "while 1 @1 do 1 1 done", "while @1 do 1 1 done", "while true do 1 @1 done", "for i = 1 @1 to 1 1 do 1 1 done", "for i = @true to 1 1 do 1 1 done", "for i = 1 to @true do 1 1 done", "for i = 1 to 2 do 1 @1 done", "1 @1; 1 1", "1; 1 @1")
	allFaults(t, api.ErrType, "(1 @1) + (1 1)", "@true + (1 1)", "1 + (1 @1)", `@1 ^ (1 1)`, "(1 @1) = (1 1)", "@1 := (1 1)", "ref (1 @1) := 1", "not (1 @1)", "- (1 @1)", "!(1 @1)")
	allFaults(t, api.ErrType, "function (B @true, B false) -> 1", "function B @true :: 1 -> 1", "function (B @true | 1) -> 1", "function {y = B @true; x = 1} -> 1", "function {y = B true; x = @true} -> 1", "function (B @true as x) -> 1 1")
}
