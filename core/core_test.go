package core_test

import (
	"slices"
	"strconv"
	"strings"
	"testing"

	"grapnel/api"
	"grapnel/core"
)

// isValue holds that an expression, behind `let _ = `, where its places count from 8 on, has this core.
func isValue(t *testing.T, s, want string) {
	t.Helper()
	isCore(t, "let _ = "+s, "(Match@0 "+want+" (Case@0 (QAny@4) (Con@0 s())))")
}

// isPattern holds that a pattern, behind `let `, where its places count from 4 on, has this core.
func isPattern(t *testing.T, s, want string) {
	t.Helper()
	isCore(t, "let "+s+" = 1", "(Match@0 (Int@"+strconv.Itoa(7+len(s))+" n1) (Case@0 "+want+" (Con@0 s())))")
}

// P9.1: what becomes of each kind of node.

func TestConstants(t *testing.T) {
	isValue(t, "0", "(Int@8)")
	isValue(t, "12", "(Int@8 n12)")
	isValue(t, "4611686018427387903", "(Int@8 n4611686018427387903)")
	isValue(t, `"a b"`, "(Text@8 sa b)")
	isValue(t, `""`, "(Text@8)")
	isValue(t, "()", "(Con@8 s())")
	isValue(t, "true", "(Con@8 n1 strue)")
	isValue(t, "false", "(Con@8 sfalse)")
}

func TestConstructors(t *testing.T) {
	isValue(t, "Match_failure", "(Con@8 sMatch_failure)")
	isValue(t, "Division_by_zero", "(Con@8 n1 sDivision_by_zero)")
	isValue(t, "Invalid_argument", "(Con@8 n2 sInvalid_argument)")
	isValue(t, "End_of_file", "(Con@8 n3 sEnd_of_file)")
	isValue(t, "Not_found", "(Con@8 n4 sNot_found)")
	isValue(t, `Failure "x"`, "(Con@8 sFailure (Text@16 sx))")
	isValue(t, "Failure (1, 2)", "(Con@8 sFailure (Tuple@18 (Int@17 n1) (Int@20 n2)))")
	isValue(t, "Failure ()", "(Con@8 sFailure (Con@16 s()))")
	isValue(t, "(Not_found) 1", "(App@9 (Con@9 n4 sNot_found) (Int@20 n1))")
}

func TestLists(t *testing.T) {
	isValue(t, "[]", "(Con@8 s[])")
	isValue(t, "[1]", "(Con@8 s:: (Int@9 n1) (Con@8 s[]))")
	isValue(t, "[1; 2; 3;]", "(Con@8 s:: (Int@9 n1) (Con@8 s:: (Int@12 n2) (Con@8 s:: (Int@15 n3) (Con@8 s[]))))")
	isValue(t, "[[]; [1]]", "(Con@8 s:: (Con@9 s[]) (Con@8 s:: (Con@13 s:: (Int@14 n1) (Con@13 s[])) (Con@8 s[])))")
	isValue(t, "1 :: 2 :: []", "(Con@10 s:: (Int@8 n1) (Con@15 s:: (Int@13 n2) (Con@18 s[])))")
	isValue(t, "(1, 2) :: 3", "(Con@15 s:: (Tuple@10 (Int@9 n1) (Int@12 n2)) (Int@18 n3))")
	isValue(t, "1 :: (2, 3)", "(Con@10 s:: (Int@8 n1) (Tuple@15 (Int@14 n2) (Int@17 n3)))")
}

func TestParts(t *testing.T) {
	isValue(t, "(1, 2, 3)", "(Tuple@10 (Int@9 n1) (Int@12 n2) (Int@15 n3))")
	isValue(t, "[||]", "(Array@8)")
	isValue(t, "[|1|]", "(Array@8 (Int@10 n1))")
	isValue(t, "[|1; 2|]", "(Array@8 (Int@10 n1) (Int@13 n2))")
	isValue(t, "hash.(1)", "(At@12 (Builtin@8 n12) (Int@14 n1))")
	isValue(t, "hash.(1) <- 2", "(Put@17 (Builtin@8 n12) (Int@14 n1) (Int@20 n2))")
	isValue(t, "raise Not_found", "(Raise@8 (Con@14 n4 sNot_found))")
	isValue(t, "while true do () done", "(While@8 (Con@14 n1 strue) (Con@22 s()))")
	isValue(t, "1; 2; 3", "(Seq@9 (Int@8 n1) (Seq@12 (Int@11 n2) (Int@14 n3)))")
	isValue(t, "1 2 3", "(App@8 (Int@8 n1) (Int@10 n2) (Int@12 n3))")
	isValue(t, "(1 2) 3", "(App@9 (App@9 (Int@9 n1) (Int@11 n2)) (Int@14 n3))")
}

func TestLoops(t *testing.T) {
	isValue(t, "for i = 1 to 2 do i done", "(For@8 n1 (Int@16 n1) (Int@21 n2) (Var@26))")
	isValue(t, "for i = 2 downto 1 do i done", "(For@8 (Int@16 n2) (Int@25 n1) (Var@30))")
	isValue(t, "fun i -> for i = i to i do i done; i",
		"(Fun@8 n1 (Seq@41 (For@17 n1 v1 (Var@25) (Var@30) (Var@35 v1)) (Var@43)))")
}

func TestBuiltInFunctions(t *testing.T) {
	for i, s := range core.Builtins() {
		isValue(t, s, "(Builtin@8 n"+strconv.Itoa(i+1)+")")
	}
	isValue(t, "print_int 1 2", "(App@8 (Builtin@8 n1) (Int@18 n1) (Int@20 n2))")
}

func TestOperations(t *testing.T) {
	for s, op := range map[string]int{
		"+": api.OpAdd, "-": api.OpSub, "*": api.OpMul, "/": api.OpDiv, "mod": api.OpRem,
		"=": api.OpEq, "<>": api.OpNe, "<": api.OpLt, ">": api.OpGt, "<=": api.OpLe, ">=": api.OpGe,
		"^": api.OpCat, ":=": api.OpAssign,
	} {
		isValue(t, "1 "+s+" 2", "(Op@10 n"+strconv.Itoa(op)+" (Int@8 n1) (Int@"+strconv.Itoa(11+len(s))+" n2))")
	}
	for s, op := range map[string]int{"-": api.OpNeg, "not": api.OpNot, "!": api.OpDeref} {
		isValue(t, s+" 1", "(Op@8 n"+strconv.Itoa(op)+" (Int@"+strconv.Itoa(9+len(s))+" n1))")
	}
	isValue(t, "1 && 2", "(If@10 (Int@8 n1) (Int@13 n2) (Con@10 sfalse))")
	isValue(t, "1 || 2", "(If@10 (Int@8 n1) (Con@10 n1 strue) (Int@13 n2))")
	isValue(t, "1 || 2 && 3", "(If@10 (Int@8 n1) (Con@10 n1 strue) (If@15 (Int@13 n2) (Int@18 n3) (Con@15 sfalse)))")
}

func TestIfs(t *testing.T) {
	isValue(t, "if 1 then 2 else 3", "(If@8 (Int@11 n1) (Int@18 n2) (Int@25 n3))")
	isValue(t, "if 1 then 2", "(If@8 (Int@11 n1) (Int@18 n2) (Con@8 s()))")
}

func TestRef(t *testing.T) {
	isValue(t, "ref 1", "(Op@8 n40 (Int@12 n1))")
	isValue(t, "(ref) 1", "(Op@9 n40 (Int@14 n1))")
	isValue(t, "(ref 1) 2", "(App@9 (Op@9 n40 (Int@13 n1)) (Int@16 n2))")
	isValue(t, "ref (ref 1)", "(Op@8 n40 (Op@13 n40 (Int@17 n1)))")
	isValue(t, "ref (1, 2)", "(Op@8 n40 (Tuple@14 (Int@13 n1) (Int@16 n2)))")
	isValue(t, "fun ref -> ref", "(Fun@8 n1 (Var@19))")
	isValue(t, "fun ref -> ref 1", "(Fun@8 n1 (App@19 (Var@19) (Int@23 n1)))")
	isValue(t, "fun ref -> ref 1 2", "(Fun@8 n1 (App@19 (Var@19) (Int@23 n1) (Int@25 n2)))")
	isValue(t, "(fun ref -> ref); ref 1", "(Seq@24 (Fun@9 n1 (Var@20)) (Op@26 n40 (Int@30 n1)))")
}

func TestRecords(t *testing.T) {
	ahead := "type r = {a : int; mutable b : r; c : int} "
	end := " (Case@43 (QAny@47) (Con@0 s())))"
	isCore(t, ahead+"let _ = {a = 1; b = 2; c = 3}", "(Match@43 (Record@51 sr (Int@56 n1) (Int@63 n2) (Int@70 n3))"+end)
	isCore(t, ahead+"let _ = {c = 1; a = 2; b = 3}", "(Match@43 (Record@51 sr (Int@63 n2) (Int@70 n3) (Int@56 n1))"+end)
	isCore(t, ahead+"let _ = 1.a", "(Match@43 (Get@52 sa (Int@51 n1))"+end)
	isCore(t, ahead+"let _ = 1.c.b", "(Match@43 (Get@54 n1 sb (Get@52 n2 sc (Int@51 n1)))"+end)
	isCore(t, ahead+"let _ = 1.b <- 2", "(Match@43 (Set@55 n1 sb (Int@51 n1) (Int@58 n2))"+end)
	isCore(t, ahead+"type q = {d : int} let _ = {d = 1}.d",
		"(Match@62 (Get@77 sd (Record@70 sq (Int@75 n1))) (Case@62 (QAny@66) (Con@0 s())))")
}

func TestMatches(t *testing.T) {
	isValue(t, "match 1 with 2 -> 3 | _ when 4 -> 5",
		"(Match@8 (Int@14 n1) (Case@21 (QInt@21 n2) (Int@26 n3)) (Case@30 (QAny@30) (Int@37 n4) (Int@42 n5)))")
	isValue(t, "try 1 with Failure s -> s | _ when true -> 2",
		"(Try@8 (Int@12 n1) (Case@19 (QCon@19 sFailure (QVar@27)) (Var@32)) (Case@36 (QAny@36) (Con@43 n1 strue) (Int@51 n2)))")
	isValue(t, "match 1 with x when x -> x | y -> y",
		"(Match@8 (Int@14 n1) (Case@21 (QVar@21) (Var@28) (Var@33)) (Case@37 (QVar@37) (Var@42)))")
	isValue(t, "match 1 with (x | x) -> x",
		"(Match@8 (Int@14 n1) (Case@21 (QOr@24 (QVar@22) (QVar@26)) (Var@32)))")
}

func TestPatterns(t *testing.T) {
	isPattern(t, "_", "(QAny@4)")
	isPattern(t, "12", "(QInt@4 n12)")
	isPattern(t, "-12", "(QInt@4 n-12)")
	isPattern(t, `"a b"`, "(QText@4 sa b)")
	isPattern(t, "()", "(QCon@4 s())")
	isPattern(t, "true", "(QCon@4 n1 strue)")
	isPattern(t, "false", "(QCon@4 sfalse)")
	isPattern(t, "(x, y, _)", "(QTuple@6 (QVar@5) (QVar@8 v1) (QAny@11))")
	isPattern(t, "Not_found", "(QCon@4 n4 sNot_found)")
	isPattern(t, "Failure x", "(QCon@4 sFailure (QVar@12))")
	isPattern(t, "Failure (x, y)", "(QCon@4 sFailure (QTuple@14 (QVar@13) (QVar@16 v1)))")
	isPattern(t, "[]", "(QCon@4 s[])")
	isPattern(t, "[x; 1; y]", "(QCon@4 s:: (QVar@5) (QCon@4 s:: (QInt@8 n1) (QCon@4 s:: (QVar@11 v1) (QCon@4 s[]))))")
	isPattern(t, "x :: 1 :: y", "(QCon@6 s:: (QVar@4) (QCon@11 s:: (QInt@9 n1) (QVar@14 v1)))")
	isPattern(t, "(x, y) :: _", "(QCon@11 s:: (QTuple@6 (QVar@5) (QVar@8 v1)) (QAny@14))")
	isPattern(t, "(1 | 2 | 3)", "(QOr@7 (QInt@5 n1) (QOr@11 (QInt@9 n2) (QInt@13 n3)))")
	isPattern(t, "(1 as x)", "(QAs@7 (QInt@5 n1))")
}

// P9.1: which number a variable has.

func TestNumbersInPatterns(t *testing.T) {
	isPattern(t, "((x, y) as z)", "(QAs@12 (QTuple@7 (QVar@6 v1) (QVar@9 v2)))")
	isPattern(t, "(w, ((x, y) as z), v)", "(QTuple@6 (QVar@5) (QAs@16 v1 (QTuple@11 (QVar@10 v2) (QVar@13 v3))) (QVar@23 v4))")
	isPattern(t, "(1 as x as y)", "(QAs@12 (QAs@7 v1 (QInt@5 n1)))")
	isPattern(t, "((x, y) | (y, x))", "(QOr@12 (QTuple@7 (QVar@6) (QVar@9 v1)) (QTuple@16 (QVar@15 v1) (QVar@18)))")
	isPattern(t, "(((x, y) | (y, x)), z)",
		"(QTuple@22 (QOr@13 (QTuple@8 (QVar@7) (QVar@10 v1)) (QTuple@17 (QVar@16 v1) (QVar@19))) (QVar@24 v2))")
	isPattern(t, "(z, (x, y) | y, _, x, z)",
		"(QOr@15 (QTuple@6 (QVar@5) (QTuple@10 (QVar@9 v1) (QVar@12 v2))) (QTuple@18 (QVar@17 v2) (QAny@20) (QVar@23 v1) (QVar@26)))")
	isPattern(t, "((x as y) | (y as x))", "(QOr@14 (QAs@8 (QVar@6 v1)) (QAs@19 v1 (QVar@17)))")
	isPattern(t, "(x, y | (y, x | x, y))",
		"(QOr@10 (QTuple@6 (QVar@5) (QVar@8 v1)) (QOr@18 (QTuple@14 (QVar@13 v1) (QVar@16)) (QTuple@21 (QVar@20) (QVar@23 v1))))")
}

func TestRecordPatterns(t *testing.T) {
	ahead := "type r = {a : int; b : r; c : int} "
	isCore(t, ahead+"let {c = x; a = y} = 1",
		"(Match@35 (Int@56 n1) (Case@35 (QRecord@39 sr (QVar@51 v1) (QAny@39) (QVar@44)) (Con@0 s())))")
	isCore(t, ahead+"let {b = 2} = 1",
		"(Match@35 (Int@49 n1) (Case@35 (QRecord@39 sr (QAny@39) (QInt@44 n2) (QAny@39)) (Con@0 s())))")
	isCore(t, ahead+"let {c = (x, z); b = {a = w}; a = y} = 1",
		"(Match@35 (Int@74 n1) (Case@35 (QRecord@39 sr (QVar@69 v3) (QRecord@56 sr (QVar@61 v2) (QAny@56) (QAny@56)) (QTuple@46 (QVar@45) (QVar@48 v1))) (Con@0 s())))")
}

func TestFunctions(t *testing.T) {
	isValue(t, "fun x y -> (x, y)", "(Fun@8 n2 (Tuple@21 (Var@20) (Var@23 v1)))")
	isValue(t, "fun _ -> 1", "(Fun@8 n1 (Match@12 (Var@12) (Case@12 (QAny@12) (Int@17 n1))))")
	isValue(t, "fun x (a, b) y _ -> (x, a, y, b)",
		"(Fun@8 n4 (Match@16 (Var@16 v1) (Case@16 (QTuple@16 (QVar@15 v4) (QVar@18 v5)) (Match@23 (Var@23 v3) (Case@23 (QAny@23) (Tuple@30 (Var@29) (Var@32 v4) (Var@35 v2) (Var@38 v5)))))))")
	isValue(t, "fun [x] 1 ((a | a) as b) -> b",
		"(Fun@8 n3 (Match@12 (Var@12) (Case@12 (QCon@12 s:: (QVar@13 v3) (QCon@12 s[])) (Match@16 (Var@16 v1) (Case@16 (QInt@16 n1) (Match@27 (Var@27 v2) (Case@27 (QAs@27 v4 (QOr@22 (QVar@20 v5) (QVar@24 v5))) (Var@36 v4))))))))")
	isValue(t, "fun x -> fun y -> (x, y)", "(Fun@8 n1 (Fun@17 n1 v1 (Tuple@28 (Var@27) (Var@30 v1))))")
	isValue(t, "function 1 -> 2 | x -> x",
		"(Fun@8 n1 (Match@8 (Var@8) (Case@17 (QInt@17 n1) (Int@22 n2)) (Case@26 (QVar@26 v1) (Var@31 v1))))")
	isValue(t, "function x when x -> fun y -> y",
		"(Fun@8 n1 (Match@8 (Var@8) (Case@17 (QVar@17 v1) (Var@24 v1) (Fun@29 n1 v2 (Var@38 v2)))))")
}

// The same name bound once more stands for the later one; what is bound in something isn't bound behind it.
func TestBoundOnceMore(t *testing.T) {
	isValue(t, "fun x x -> x", "(Fun@8 n2 (Var@19 v1))")
	isValue(t, "fun (a, b) a -> a", "(Fun@8 n2 (Match@14 (Var@14) (Case@14 (QTuple@14 (QVar@13 v2) (QVar@16 v3)) (Var@24 v2))))")
	isValue(t, "fun x -> (fun x -> x) x; fun y -> x",
		"(Fun@8 n1 (Seq@31 (App@18 (Fun@18 n1 v1 (Var@27 v1)) (Var@30)) (Fun@33 n1 v1 (Var@42))))")
	isValue(t, "fun x -> match x with x -> x | y -> (x, y)",
		"(Fun@8 n1 (Match@17 (Var@23) (Case@30 (QVar@30 v1) (Var@35 v1)) (Case@39 (QVar@39 v1) (Tuple@46 (Var@45) (Var@48 v1)))))")
	isValue(t, "fun x -> let x = x in x; x",
		"(Fun@8 n1 (Let@17 v1 (Var@25) (Seq@31 (Var@30 v1) (Var@33 v1))))")
	isValue(t, "fun x -> (let x = (fun y -> x) in x), x",
		"(Fun@8 n1 (Tuple@44 (Let@18 v1 (Fun@27 n1 v1 (Var@36)) (Var@42 v1)) (Var@46)))")
	isCore(t, "let x = 1 let x = x let _ = x",
		"(Let@0 (Int@8 n1) (Let@10 v1 (Var@18) (Match@20 (Var@28 v1) (Case@20 (QAny@24) (Con@0 s())))))")
	isCore(t, "let rec f f = f let rec f x = f", "(Rec@0 n1 (Fun@10 n1 v1 (Var@14 v1)) (Rec@16 n1 v1 (Fun@26 n1 v2 (Var@30 v1)) (Con@0 s())))")
}

func TestNamesThatHide(t *testing.T) {
	isCore(t, "let _ = hash let hash = hash let _ = hash",
		"(Match@0 (Builtin@8 n12) (Case@0 (QAny@4) (Let@13 (Builtin@24 n12) (Match@29 (Var@37) (Case@29 (QAny@33) (Con@0 s()))))))")
	isValue(t, "fun compare -> compare", "(Fun@8 n1 (Var@23))")
	isValue(t, "(fun exit -> exit), exit", "(Tuple@26 (Fun@9 n1 (Var@21)) (Builtin@28 n4))")
	isValue(t, "match 1 with hash -> hash", "(Match@8 (Int@14 n1) (Case@21 (QVar@21) (Var@29)))")
	isValue(t, "for exit = 1 to 2 do exit done", "(For@8 n1 (Int@19 n1) (Int@24 n2) (Var@29))")
	isCore(t, "let rec print_int x = print_int x", "(Rec@0 n1 (Fun@18 n1 v1 (App@22 (Var@22) (Var@32 v1))) (Con@0 s()))")
}

// P9.1: lets, at the top and within.

func TestLets(t *testing.T) {
	isValue(t, "let x = 1 in x", "(Let@8 (Int@16 n1) (Var@21))")
	isValue(t, "let (x) = 1 in x", "(Let@8 (Int@18 n1) (Var@23))")
	isValue(t, "let (a, b) = 1 in b", "(Match@8 (Int@21 n1) (Case@8 (QTuple@14 (QVar@13) (QVar@16 v1)) (Var@26 v1)))")
	isValue(t, "let _ = 1 in 2", "(Match@8 (Int@16 n1) (Case@8 (QAny@12) (Int@21 n2)))")
	isValue(t, "let f x y = y in f", "(Let@8 (Fun@14 n2 (Var@20 v1)) (Var@25))")
	isValue(t, "let a = 1 and b = 2 in (a, b)",
		"(Match@8 (Tuple@8 (Int@16 n1) (Int@26 n2)) (Case@8 (QTuple@8 (QVar@12) (QVar@22 v1)) (Tuple@33 (Var@32) (Var@35 v1))))")
	isValue(t, "let (a, _) = 1 and _ = 2 and c x = x in c",
		"(Match@8 (Tuple@8 (Int@21 n1) (Int@31 n2) (Fun@39 n1 (Var@43))) (Case@8 (QTuple@8 (QTuple@14 (QVar@13) (QAny@16)) (QAny@27) (QVar@37 v1)) (Var@48 v1)))")
	isValue(t, "fun a -> let a = a and b = a in a",
		"(Fun@8 n1 (Match@17 (Tuple@17 (Var@25) (Var@35)) (Case@17 (QTuple@17 (QVar@21 v1) (QVar@31 v2)) (Var@40 v1))))")
}

func TestRecLets(t *testing.T) {
	isValue(t, "let rec f x = g x and g = function y -> f y in f",
		"(Rec@8 n2 (Fun@18 n1 v2 (App@22 (Var@22 v1) (Var@24 v2))) (Fun@34 n1 v2 (Match@34 (Var@34 v2) (Case@43 (QVar@43 v3) (App@48 (Var@48) (Var@50 v3))))) (Var@55))")
	isValue(t, "let rec f = fun x -> f in f", "(Rec@8 n1 (Fun@20 n1 v1 (Var@29)) (Var@34))")
	isCore(t, "let a = 1 let rec f x = a and g y = f let _ = g",
		"(Let@0 (Int@8 n1) (Rec@10 n2 v1 (Fun@20 n1 v3 (Var@24)) (Fun@32 n1 v3 (Var@36 v1)) (Match@38 (Var@46 v2) (Case@38 (QAny@42) (Con@0 s())))))")
}

func TestPrograms(t *testing.T) {
	isCore(t, "", "(Con@0 s())")
	isCore(t, "  type t = A ;; exception B", "(Con@0 s())")
	isCore(t, "let x = 1", "(Let@0 (Int@8 n1) (Con@0 s()))")
	isCore(t, "let x = 1 and y = 2 ;; let z = y",
		"(Match@0 (Tuple@0 (Int@8 n1) (Int@18 n2)) (Case@0 (QTuple@0 (QVar@4) (QVar@14 v1)) (Let@23 v2 (Var@31 v1) (Con@0 s()))))")
	isCore(t, "let [x] = 1 let y = x",
		"(Match@0 (Int@10 n1) (Case@0 (QCon@4 s:: (QVar@5) (QCon@4 s[])) (Let@12 v1 (Var@20) (Con@0 s()))))")
	isCore(t, "let a = fun b -> b let c = a",
		"(Let@0 (Fun@8 n1 (Var@17)) (Let@19 v1 (Var@27) (Con@0 s())))")
}

func TestExamples(t *testing.T) {
	isCore(t, "let f x = x + 1 let _ = print_int (f 2)",
		"(Let@0 (Fun@6 n1 (Op@12 n1 (Var@10) (Int@14 n1))) (Match@16 (App@24 (Builtin@24 n1) (App@35 (Var@35) (Int@37 n2))) (Case@16 (QAny@20) (Con@0 s()))))")
	isCore(t, "type t = A | B of int | C let _ = match B 1 with C -> 0 | B x -> x",
		"(Match@26 (Match@34 (Con@40 sB (Int@42 n1)) (Case@49 (QCon@49 n1 sC) (Int@54)) (Case@58 (QCon@58 sB (QVar@60)) (Var@65))) (Case@26 (QAny@30) (Con@0 s())))")
	isFault(t, "let _ = x", api.ErrName, 8)
	isFault(t, "let (a, a) = 1", api.ErrTwice, 8)
	isFault(t, "let rec a = 1", api.ErrForm, 8)
}

// P9.2

func TestBuiltins(t *testing.T) {
	want := "print_int print_string read_line exit string_of_int int_of_string string_length string_get array_make array_length compare hash"
	l := core.Builtins()
	if got := strings.Join(l, " "); got != want {
		t.Errorf("got %s\nwant %s", got, want)
	}
	numbers := []int{api.BPrintInt, api.BPrint, api.BLine, api.BExit, api.BToText, api.BToInt, api.BLength, api.BByte, api.BMake, api.BSize, api.BCompare, api.BHash}
	for i, b := range numbers {
		if b != i+1 {
			t.Errorf("%s is number %d", l[i], b)
		}
	}
	slices.Reverse(l)
	if again := core.Builtins(); again[0] != "print_int" {
		t.Errorf("what was told is kept: %v", again)
	}
}
