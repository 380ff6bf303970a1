package infer_test

import (
	"strconv"
	"testing"

	"grapnel/api"
	"grapnel/infer"
)

// P11.1: a let makes general what is a value.
func TestValues(t *testing.T) {
	for s, want := range map[string]string{
		"let f = fun x -> x in (f 1, f true, f)":                        "(int * bool * ('1 -> '1))", // KFun
		"let f x y = x in (f 1 2, f true ())":                           "(int * bool)",
		"let f = function x :: _ -> x in (f [1], f [true])":             "(int * bool)",
		"let f = fun x -> x in let g = f in (g 1, g true)":              "(int * bool)", // KVar
		"let f = exit in fun x -> if x then f 1 else f 2; f 3":          "(bool -> '1)", // KBuiltin
		"let f = hash in (f 1, f true)":                                 "(int * int)",
		"let f = compare in (f 1 2, f true false, f)":                   "(int * int * ('1 -> ('1 -> int)))",
		"let f = array_make in (f 1 2, f 1 true)":                       "((int array) * (bool array))",
		"let n = [] in (1 :: n, true :: n)":                             "((int list) * (bool list))", // KCon
		"let n = [[]] in ([1] :: n, [true] :: n)":                       "(((int list) list) * ((bool list) list))",
		"let n = (fun x -> x) :: [] in match n with f :: _ -> f":        "('1 -> '1)",
		"let n = [(fun x -> x); (fun y -> y)] in (n, n)":                "((('1 -> '1) list) * (('2 -> '2) list))",
		"let p = ([], []) in match p with (a, b) -> (1 :: a, b)":        "((int list) * ('1 list))", // KTuple
		"let p = ((fun x -> x), 1, \"a\", [hash]) in (p, p)":            "((('1 -> '1) * int * string * (('2 -> int) list)) * (('3 -> '3) * int * string * (('4 -> int) list)))",
		"let p = ([], ([], 1)) in (p, p)":                               "((('1 list) * (('2 list) * int)) * (('3 list) * (('4 list) * int)))",
		"let f = fun x -> ref x in (f 1, f true)":                       "((int ref) * (bool ref))", // within a function nothing is worked out
		"let f = fun () -> ref [] in ((f () := [1]), (f () := [true]))": "(unit * unit)",
		"let f = fun x -> raise N in (f 1 + 1, f true ^ \"a\")":         "(int * string)",
	} {
		isType(t, s, want)
	}
}

// P11.1: a let makes nothing general in what is no value: each of these could be used at two types, if it were one.
func TestNoValues(t *testing.T) {
	allFaults(t, api.ErrType,
		"let f = (fun x -> x) (fun x -> x) in (f 1, f @true)", // KApp
		"let f = array_make 1 in (f 1, f @true)",
		"let r = ref [] in ((r := [1]), (r := @[true]))", // KOp
		"let f = !(ref (fun x -> x)) in (f 1, f @true)",
		"let a = [||] in ((a.(0) <- 1), (a.(0) <- @true))", // KArray, of none too
		"let a = [|[]|] in ((a.(0) <- [1]), (a.(0) <- @[true]))",
		"let f = [|(fun x -> x)|].(0) in (f 1, f @true)",                        // KAt
		"let f = if true then (fun x -> x) else (fun x -> x) in (f 1, f @true)", // KIf
		"let f = match 1 with _ -> (fun x -> x) in (f 1, f @true)",              // KMatch
		"let f = try (fun x -> x) with _ -> (fun x -> x) in (f 1, f @true)",     // KTry
		"let f = let g = fun x -> x in g in (f 1, f @true)",                     // KLet
		"let f = let rec g x = x in g in (f 1, f @true)",                        // KRec
		"let f = (1; fun x -> x) in (f 1, f @true)",                             // KSeq
		"let f = raise N in (f 1, f @true)",                                     // KRaise
		"let l = [(1; [])] in (l = [[1]], l = @[[true]])",                       // a constructor of what is none
		"let l = [] :: (1; []) in (l = [[1]], l = @[[true]])",
		"let p = ([], ref []) in (p = ([1], ref []), p = ([true]@, ref []))", // a tuple of what is none, behind one
		"let p = ((1; 2), []) in (p = (2, [1]), p = (2@, [true]))",           // and ahead of one
		"let p = ([], ((1; 2), 1)) in (p = ([1], (2, 1)), p = ([true]@, (2, 1)))",
		"let (f, y) = ((fun x -> x), 1) in (f 1, f @true)", // a pattern's variables, whatever they stand for
		"match (fun x -> x) with f -> (f 1, f @true)",
		"let f = fun x -> x and y = 1 in (f 1, f @true)",
		"fun f -> (f 1, f @true)", // a parameter
		"let (_ as f) = fun x -> x in (f 1, f @true)",
	)
	isFault(t, "let x = raise N in (x + 1, @x ^ \"a\")", api.ErrType)
	isFault(t, "let rec f x = x and g y = (f 1, f @true) in f", api.ErrType) // a rec's variables, within it
	isType(t, "let r = ref [] in r", "(('1 list) ref)")
	isType(t, "let f = (fun x -> x) (fun x -> x) in (f, f)", "(('1 -> '1) * ('1 -> '1))")
	isType(t, "let a = [||] in (a, a)", "(('1 array) * ('1 array))")
}

// P11.1: a record is no value, though nothing can be general in its own type.
func TestRecordsAreNoValues(t *testing.T) {
	isType(t, "let a = {x = 1; y = A} in (a, a)", "(r * r)")
	isFault(t, "fun q -> let a = ({x = 1; y = A}, []) in (a = (q, [1]), a = (q@, [true]))", api.ErrType)
	isType(t, "fun q -> let a = (q, []) in (a = ({x = 1; y = A}, [1]), a = (q, [true]))", "(r -> (bool * bool))")
	isFault(t, "let p = [({x = 1; y = A}, [])] in match p with (q, _) :: _ -> (p = [(q, [1])], p = @[(q, [true])])", api.ErrType)
}

// P11.1: not general is what a variable around has in its type.
func TestFreeAround(t *testing.T) {
	isFault(t, "fun x -> let y = x in (y + 1, @y ^ \"a\")", api.ErrType)
	isFault(t, "fun x -> let f = fun y -> x in (f 1 + 1, @f true ^ \"a\")", api.ErrType)
	isType(t, "fun x -> let f = fun y -> (x, y) in (f 1, f true)", "('1 -> (('1 * int) * ('1 * bool)))")
	isType(t, "fun x -> let f = fun y -> y in (f x, f 1)", "('1 -> ('1 * int))")
	isType(t, "fun x -> let p = (x, []) in (p, p)", "('1 -> (('1 * ('2 list)) * ('1 * ('3 list))))")
	isType(t, "fun x -> let f = fun y -> x = y in (f, f)", "('1 -> (('1 -> bool) * ('1 -> bool)))")
	isFault(t, "fun x -> let f = fun y -> x = y in (f 1, f @true)", api.ErrType)
	isFault(t, "fun x -> let f = fun y -> x := y in (f 1, f @true)", api.ErrType)
	isType(t, "fun x -> let f = fun y z -> x = [y]; z in (f 1 2, f 3 true)", "((int list) -> (int * bool))")
	isFault(t, "fun x -> let f = fun y z -> x = [y]; z in (f 1 2, f @true true)", api.ErrType)
	isFault(t, "let r = ref [] in let f = fun x -> r := [x] in (f 1, f @true)", api.ErrType)
	isFault(t, "match ref [] with r -> let f = fun x -> r := x in (f [1], f @[true])", api.ErrType)
	isFault(t, "fun g -> let rec f x = g x in (f 1, f @true)", api.ErrType)
	isType(t, "fun g -> let rec f x y = if true then y else f (g x) y in (f, f)", "(('1 -> '1) -> (('1 -> ('2 -> '2)) * ('1 -> ('3 -> '3))))")
	isFault(t, "function (x, _) as p -> let f = fun y -> p = (x, y) in (f 1, f @true)", api.ErrType)
	isFault(t, "try raise N with e -> fun z -> let f = fun y -> y = z in (f 1, f @true)", api.ErrType)
}

// P11.1: what is free around is asked of the types as they are at the let: what was made one ahead of it counts, what is made one behind it doesn't.
func TestFreeAroundAsKnown(t *testing.T) {
	isType(t, "fun x -> x + 1; let f = fun y -> y = x in f", "(int -> (int -> bool))")
	isType(t, "fun x z -> x = z; let p = (z, []) in (p, p)", "('1 -> ('1 -> (('1 * ('2 list)) * ('1 * ('3 list)))))")
	isFault(t, "fun x z -> x = [z]; let f = fun y -> y = z in (f 1, f @true)", api.ErrType)
	isFault(t, "fun x z -> x = [|z|]; match x.(0) with w -> let f = fun y -> y = w in (f 1, f @true)", api.ErrType)
	isType(t, "fun x -> let p = (x, (fun y -> y)) in x = [1]; p", "((int list) -> ((int list) * ('1 -> '1)))")
	isType(t, "fun x -> let f = fun y -> (x, y) in x = ref []; (f 1, f true)", "((('1 list) ref) -> (((('1 list) ref) * int) * ((('1 list) ref) * bool)))")
	isFault(t, "fun x -> let f = fun y -> (x, y) in x = ref []; let g = fun z -> x := z in (f g, g [1], g @[true])", api.ErrType)
	isType(t, "fun x -> (let y = x in fun z -> z = y); let f = fun w -> w in (f 1, f x)", "('1 -> (int * '1))")
}

// P11.1: a variable that isn't around any more holds nothing fast.
func TestBehind(t *testing.T) {
	isType(t, "(fun x -> x) (let f = fun y -> y in (f 1, f true))", "(int * bool)")
	isType(t, "let f = (fun x y -> x) in ((let g = f 1 in g), f true)", "(('1 -> int) * ('2 -> bool))")
	isType(t, "let f = fun x -> let g = fun y -> (x, y) in g in (f 1 true, f true 1)", "((int * bool) * (bool * int))")
	isType(t, "let f = fun x -> let g = fun y -> (x, y) in g in f", "('1 -> ('2 -> ('1 * '2)))")
	isType(t, "let f = fun r -> match r with (x, y) -> (y, x) in (f (1, true), f (\"a\", 1))", "((bool * int) * (int * string))")
	isType(t, "let f = fun l -> for i = 1 to 2 do l done; l in (f 1, f true)", "(int * bool)")
	isType(t, "let f = fun l -> try l with E s -> l in (f 1, f true)", "(int * bool)")
}

// P11.1: functions that name each other: within them their types aren't general, behind them they are.
func TestRec(t *testing.T) {
	for s, want := range map[string]string{
		"let rec f x = x in (f 1, f true, f)":                                                   "(int * bool * ('1 -> '1))",
		"let rec f x = g x and g y = y in (f 1, f true, g 1, g true)":                           "(int * bool * int * bool)",
		"let rec f x = if x then g x else 1 and g x = f (not x) in (f, g)":                      "((bool -> int) * (bool -> int))",
		"let rec f x = g x and g y = f y in (f, g)":                                             "(('1 -> '2) * ('3 -> '4))",
		"let rec f x y = f y x in (f, f 1)":                                                     "(('1 -> ('1 -> '2)) * (int -> '3))",
		"let rec f = function [] -> [] | x :: l -> g x :: f l and g y = y in (f [1], f, g)":     "((int list) * (('1 list) -> ('1 list)) * ('2 -> '2))",
		"let rec map f = function [] -> [] | x :: l -> f x :: map f l in map":                   "(('1 -> '2) -> (('1 list) -> ('2 list)))",
		"let rec f x = h x 1 and g x = h x 2 and h x n = if n = 0 then x else g x in (f, g, h)": "(('1 -> '1) * ('2 -> '2) * ('3 -> (int -> '3)))",
		"let rec f x = let rec g y = (f x; y) in (g 1, g true) in f":                            "('1 -> (int * bool))",
		"let rec len l = match l with [] -> 0 | _ :: m -> 1 + len m in (len [1], len [true])":   "(int * int)",
	} {
		isType(t, s, want)
	}
	allFaults(t, api.ErrType, "let rec f x = f 1; f @true in f", "let rec f x = g 1; g @true and g x = x in f", "let rec f x = x + 1 and g y = f @\"a\" in g", "let rec f x = x + 1 in f @true",
		"let rec f x = x and g y = f 1 in f @true")
}

// chained writes what makes some of the names a0, a1 and so on one with what has a later one in it.
func chained(m *maker, many int) string {
	s := ""
	for range m.r.Intn(8) {
		i := m.r.Intn(many - 1)
		later := "a" + strconv.Itoa(i+1+m.r.Intn(many-1-i))
		s += "a" + strconv.Itoa(i) + " = " + pick(m, later, "["+later+"]", "ref "+later, "(fun _ -> "+later+")") + "; "
	}
	return s
}

// P11.1: what is free around stays, in whichever order the types around were made one.
func TestAllFreeAround(t *testing.T) {
	const many = 7
	asked := 0
	for seed := range 300 {
		ahead := "fun a0 a1 a2 a3 a4 a5 a6 -> " + chained(newMaker(int64(seed), 0, 0), many)
		for i := range many {
			s := ahead + "let f = fun y -> y = a" + strconv.Itoa(i) + " in f [1]; f "
			d, c := expression(t, s+"[2]")
			if _, e, _ := infer.Infer(d, c); e == api.OK { // it may be a list: then it is one of numbers, and of nothing else
				asked++
				isFault(t, s+"@[true]", api.ErrType)
			}
		}
	}
	if asked < 1000 {
		t.Errorf("only %d were asked", asked)
	}
}
