package parse_test

import (
	"strconv"
	"strings"
	"testing"

	"grapnel/api"
	"grapnel/parse"
)

// kindName tells a kind of node in short; a name stands for itself.
func kindName(kind int) string {
	from := func(first int, names string) string {
		if all := strings.Fields(names); kind >= first && kind < first+len(all) {
			return all[kind-first]
		}
		return ""
	}
	return from(api.NInt, "int text bool unit name con tuple list array record field get set at put app fun cases let bind if match try arm raise while for seq bin un") +
		from(api.PInt, "pint ptext pbool punit pany pname pcon ptuple plist precord pfield por pas") +
		from(api.TName, "tname tapp tarrow ttuple ilet ivariant icon irecord ilabel iexn program")
}

// told tells a tree: of each node the kind, S, N (if it isn't 0), the place, counted from some byte on, and the parts. Without places, if from is below 0.
func told(n api.Node, from int) string {
	s := kindName(n.Kind)
	if n.S != "" {
		s += ":" + n.S
	}
	if n.N != 0 {
		s += "=" + strconv.FormatInt(n.N, 10)
	}
	if from >= 0 {
		s += "@" + strconv.Itoa(n.At-from)
	}
	if len(n.L) == 0 {
		return s
	}
	parts := make([]string, len(n.L))
	for i, x := range n.L {
		parts[i] = told(x, from)
	}
	return s + "(" + strings.Join(parts, " ") + ")"
}

func wantTree(t *testing.T, s, want string) {
	t.Helper()
	wantPart(t, s, want, 0, 0)
}

// wantPart asks for a part of the tree, told by the way to it; its places are counted from some byte on.
func wantPart(t *testing.T, s, want string, from int, way ...int) {
	t.Helper()
	n, e, at := parse.Parse(s)
	if e != api.OK || at != 0 {
		t.Errorf("Parse(%.80q): error %d at %d", s, e, at)
		return
	}
	if n.Kind != api.Program || n.At != 0 || n.S != "" || n.N != 0 {
		t.Errorf("Parse(%.80q) = %s", s, told(n, 0))
	}
	for _, i := range way {
		if i >= len(n.L) {
			t.Errorf("Parse(%.80q): %s has no part %d", s, told(n, 0), i)
			return
		}
		n = n.L[i]
	}
	if got := told(n, from); got != want {
		t.Errorf("Parse(%.80q):\ngot  %s\nwant %s", s, got, want)
	}
}

// wantExpr asks for what becomes of an expression, its places counted from its first byte on.
func wantExpr(t *testing.T, s, want string) {
	t.Helper()
	wantPart(t, "let _ = "+s, want, 8, 0, 0, 1)
}

func wantPat(t *testing.T, s, want string) {
	t.Helper()
	wantPart(t, "let _ = function "+s+" -> 0", want, 17, 0, 0, 1, 0, 0)
}

func wantType(t *testing.T, s, want string) {
	t.Helper()
	wantPart(t, "exception E of "+s, want, 15, 0, 0)
}

func wantFault(t *testing.T, s string, fault api.Errno, place int) {
	t.Helper()
	n, e, at := parse.Parse(s)
	if n.Kind != 0 || n.At != 0 || n.N != 0 || n.S != "" || len(n.L) != 0 || e != fault || at != place {
		t.Errorf("Parse(%.80q) = %.200s, %d, %d, want none, %d, %d", s, told(n, 0), e, at, fault, place)
	}
}

// P8.1

func TestTheChaptersExamples(t *testing.T) {
	wantPart(t, "let f x y = x + y * 2", "program@0(ilet@0(bind@4(pname:f@4 fun@6(pname:x@6 pname:y@8 bin:+@14(name:x@12 bin:*@18(name:y@16 int=2@20))))))", 0)
	wantTree(t, "let _ = a.b <- 1; c", "ilet@0(bind@4(pany@4 seq@16(set:b@12(name:a@8 int=1@15) name:c@18)))")
	wantFault(t, "let _ = 1 <- 2", api.ErrSyntax, 10)
	wantFault(t, "let _ = f (", api.ErrSyntax, 11)
	wantFault(t, "let", api.ErrSyntax, 3)
}

func TestProg(t *testing.T) {
	wantPart(t, "", "program@0", 0)
	wantPart(t, " (* nothing *) ", "program@0", 0)
	wantPart(t, " exception A exception B", "program@0(iexn:A@1 iexn:B@13)", 0)
	wantPart(t, "exception A;; exception B;;", "program@0(iexn:A@0 iexn:B@14)", 0)
	wantPart(t, "let a=b let c=d;;type t=T let e=f", "program@0(ilet@0(bind@4(pname:a@4 name:b@6)) ilet@8(bind@12(pname:c@12 name:d@14)) ivariant:t@17(icon:T@24) ilet@26(bind@30(pname:e@30 name:f@32)))", 0)
}

func TestItemsAndBinds(t *testing.T) {
	wantTree(t, "let a = 1", "ilet@0(bind@4(pname:a@4 int=1@8))")
	wantTree(t, "let rec a = 1", "ilet=1@0(bind@8(pname:a@8 int=1@12))")
	wantTree(t, "let a = 1 and b = 2 and c = 3", "ilet@0(bind@4(pname:a@4 int=1@8) bind@14(pname:b@14 int=2@18) bind@24(pname:c@24 int=3@28))")
	wantTree(t, "let rec f x = 1 and g = 2", "ilet=1@0(bind@8(pname:f@8 fun@10(pname:x@10 int=1@14)) bind@20(pname:g@20 int=2@24))")
	wantTree(t, "exception E", "iexn:E@0")
	wantTree(t, " exception E of int", "iexn:E@1(tname:int@16)")
	wantTree(t, "let a = b; c", "ilet@0(bind@4(pname:a@4 seq@9(name:b@8 name:c@11)))")
}

func TestDefs(t *testing.T) {
	wantTree(t, "type t = A", "ivariant:t@0(icon:A@9)")
	wantTree(t, " type t = | A", "ivariant:t@1(icon:A@12)")
	wantTree(t, "type t = A | B of int | C of int * int | D", "ivariant:t@0(icon:A@9 icon:B@13(tname:int@18) icon:C@24(ttuple@33(tname:int@29 tname:int@35)) icon:D@41)")
	wantTree(t, "type r = { a : int }", "irecord:r@0(ilabel:a@11(tname:int@15))")
	wantTree(t, "type r={a:int;}", "irecord:r@0(ilabel:a@8(tname:int@10))")
	wantTree(t, "type r = { mutable a : int; b : t -> t; mutable c : int list; }", "irecord:r@0(ilabel:a=1@11(tname:int@23) ilabel:b@28(tarrow@34(tname:t@32 tname:t@37)) ilabel:c=1@40(tapp:list@56(tname:int@52)))")
}

// Both forms: a name alone with something behind it that is no = has parameters.
func TestBothFormsOfBind(t *testing.T) {
	wantTree(t, "let f () = 1", "ilet@0(bind@4(pname:f@4 fun@6(punit@6 int=1@11)))")
	wantTree(t, "let f x (y) [] = 1; 2", "ilet@0(bind@4(pname:f@4 fun@6(pname:x@6 pname:y@9 plist@12 seq@18(int=1@17 int=2@20))))")
	wantTree(t, "let f (x, y) = 1", "ilet@0(bind@4(pname:f@4 fun@6(ptuple@8(pname:x@7 pname:y@10) int=1@15)))") // of the bracket, no node's place
	wantTree(t, "let f -1 = 2", "ilet@0(bind@4(pname:f@4 fun@6(pint=-1@6 int=2@11)))")
	wantTree(t, "let f A x = 2", "ilet@0(bind@4(pname:f@4 fun@6(pcon:A@6 pname:x@8 int=2@12)))")
	wantTree(t, "let (f) = 1", "ilet@0(bind@4(pname:f@5 int=1@10))")
	wantTree(t, "let (a, b) as c = 1", "ilet@0(bind@4(pas:c@11(ptuple@6(pname:a@5 pname:b@8)) int=1@18))")
	wantTree(t, "let a, b = 1", "ilet@0(bind@4(ptuple@5(pname:a@4 pname:b@7) int=1@11))")
	wantTree(t, "let a | b = 1", "ilet@0(bind@4(por@6(pname:a@4 pname:b@8) int=1@12))")
	wantTree(t, "let a as b = 1", "ilet@0(bind@4(pas:b@6(pname:a@4) int=1@13))")
	wantTree(t, "let a :: b = 1", "ilet@0(bind@4(pcon:::@6(ptuple@6(pname:a@4 pname:b@9)) int=1@13))")
	wantTree(t, "let A x = 1", "ilet@0(bind@4(pcon:A@4(pname:x@6) int=1@10))")
	wantTree(t, "let a = b = c", "ilet@0(bind@4(pname:a@4 bin:=@10(name:b@8 name:c@12)))")
	wantExpr(t, "let f x = a in b", "let@0(bind@4(pname:f@4 fun@6(pname:x@6 name:a@10)) name:b@15)")
	wantFault(t, "let (f) x = 1", api.ErrSyntax, 8)
	wantFault(t, "let f = x = let a = 1 in 2", api.ErrSyntax, 12)
	wantFault(t, "let \"f\" x = 1", api.ErrSyntax, 8)
	wantFault(t, "let f, g x = 1", api.ErrSyntax, 9)
	wantFault(t, "let f as g x = 1", api.ErrSyntax, 11)
	wantFault(t, "let f x, y = 1", api.ErrSyntax, 7)
	wantFault(t, "let f x :: y = 1", api.ErrSyntax, 8)
}

func TestSeqAndExpr(t *testing.T) {
	wantExpr(t, "a; b; c", "seq@1(name:a@0 seq@4(name:b@3 name:c@6))")
	wantExpr(t, "let a = b in c; d", "let@0(bind@4(pname:a@4 name:b@8) seq@14(name:c@13 name:d@16))")
	wantExpr(t, "let rec a = b and c = d in e", "let=1@0(bind@8(pname:a@8 name:b@12) bind@18(pname:c@18 name:d@22) name:e@27)")
	wantExpr(t, "let a = let b = c in d and e = f in g", "let@0(bind@4(pname:a@4 let@8(bind@12(pname:b@12 name:c@16) name:d@21)) bind@27(pname:e@27 name:f@31) name:g@36)")
	wantExpr(t, "fun x -> a; b", "fun@0(pname:x@4 seq@10(name:a@9 name:b@12))")
	wantExpr(t, "fun x (y, z) -1 -> a", "fun@0(pname:x@4 ptuple@8(pname:y@7 pname:z@10) pint=-1@13 name:a@19)")
	wantExpr(t, "function x -> a; b", "cases@0(arm@9(pname:x@9 seq@15(name:a@14 name:b@17)))")
	wantExpr(t, "a; fun x -> b; c", "seq@1(name:a@0 fun@3(pname:x@7 seq@13(name:b@12 name:c@15)))")
	wantExpr(t, "while a; b do c; d done; e", "seq@23(while@0(seq@7(name:a@6 name:b@9) seq@15(name:c@14 name:d@17)) name:e@25)")
	wantExpr(t, "for i = a to b do c; d done", "for:i=1@0(name:a@8 name:b@13 seq@19(name:c@18 name:d@21))")
	wantExpr(t, "for i = a downto b do c done", "for:i@0(name:a@8 name:b@17 name:c@22)")
}

func TestArms(t *testing.T) {
	wantExpr(t, "function | A -> 1 | B -> 2", "cases@0(arm@11(pcon:A@11 int=1@16) arm@20(pcon:B@20 int=2@25))")
	wantExpr(t, "match a; b with x -> c", "match@0(seq@7(name:a@6 name:b@9) arm@16(pname:x@16 name:c@21))")
	wantExpr(t, "match a with | (x) -> b | y -> c", "match@0(name:a@6 arm@15(pname:x@16 name:b@22) arm@26(pname:y@26 name:c@31))")
	wantExpr(t, "try a; b with | x -> c; d | _ -> e", "try@0(seq@5(name:a@4 name:b@7) arm@16(pname:x@16 seq@22(name:c@21 name:d@24)) arm@28(pany@28 name:e@33))")
	wantExpr(t, "function x when a -> b", "cases@0(arm@9(pname:x@9 name:a@16 name:b@21))")
	wantExpr(t, "function x when a := fun y -> b -> c", "cases@0(arm@9(pname:x@9 bin::=@18(name:a@16 fun@21(pname:y@25 name:b@30)) name:c@35))")
	wantExpr(t, "function x | y as z when a -> b | w -> c", "cases@0(arm@9(pas:z@15(por@11(pname:x@9 pname:y@13)) name:a@25 name:b@30) arm@34(pname:w@34 name:c@39))")
}

func TestTheNearestTakesElseAndBar(t *testing.T) {
	wantExpr(t, "if a then b", "if@0(name:a@3 name:b@10)")
	wantExpr(t, "if a then b else c", "if@0(name:a@3 name:b@10 name:c@17)")
	wantExpr(t, "if a then if b then c else d", "if@0(name:a@3 if@10(name:b@13 name:c@20 name:d@27))")
	wantExpr(t, "if a then if b then c else d else e", "if@0(name:a@3 if@10(name:b@13 name:c@20 name:d@27) name:e@34)")
	wantExpr(t, "if a then (if b then c) else d", "if@0(name:a@3 if@11(name:b@14 name:c@21) name:d@29)")
	wantExpr(t, "if if a then b then c else d", "if@0(if@3(name:a@6 name:b@13) name:c@20 name:d@27)")
	wantExpr(t, "if a then b else if c then d else e", "if@0(name:a@3 name:b@10 if@17(name:c@20 name:d@27 name:e@34))")
	wantExpr(t, "if a then b; c", "seq@11(if@0(name:a@3 name:b@10) name:c@13)")
	wantExpr(t, "if a then b else c; d", "seq@18(if@0(name:a@3 name:b@10 name:c@17) name:d@20)")
	wantExpr(t, "if a then let x = b in c; d else e", "if@0(name:a@3 let@10(bind@14(pname:x@14 name:b@18) seq@24(name:c@23 name:d@26)) name:e@33)")
	wantExpr(t, "if a then b := c else d := e", "if@0(name:a@3 bin::=@12(name:b@10 name:c@15) bin::=@24(name:d@22 name:e@27))")
	wantExpr(t, "if a then match b with x -> if c then d else e", "if@0(name:a@3 match@10(name:b@16 arm@23(pname:x@23 if@28(name:c@31 name:d@38 name:e@45))))")
	wantExpr(t, "if a then function x -> b | y -> c else d", "if@0(name:a@3 cases@10(arm@19(pname:x@19 name:b@24) arm@28(pname:y@28 name:c@33)) name:d@40)")
	wantFault(t, "let _ = if a then b; c else d", api.ErrSyntax, 23)

	wantExpr(t, "function x -> function y -> a | z -> b", "cases@0(arm@9(pname:x@9 cases@14(arm@23(pname:y@23 name:a@28) arm@32(pname:z@32 name:b@37))))")
	wantExpr(t, "function x -> (function y -> a) | z -> b", "cases@0(arm@9(pname:x@9 cases@15(arm@24(pname:y@24 name:a@29))) arm@34(pname:z@34 name:b@39))")
	wantExpr(t, "match a with x -> try b with y -> c | z -> d", "match@0(name:a@6 arm@13(pname:x@13 try@18(name:b@22 arm@29(pname:y@29 name:c@34) arm@38(pname:z@38 name:d@43))))")
	wantExpr(t, "function x -> match a with y -> b; if c then d | z -> e", "cases@0(arm@9(pname:x@9 match@14(name:a@20 arm@27(pname:y@27 seq@33(name:b@32 if@35(name:c@38 name:d@45))) arm@49(pname:z@49 name:e@54))))")
	wantExpr(t, "match match a with x -> b | y -> c with z -> d", "match@0(match@6(name:a@12 arm@19(pname:x@19 name:b@24) arm@28(pname:y@28 name:c@33)) arm@40(pname:z@40 name:d@45))")
}

// What is put into must be there to be put into, brackets aside; what is put is an expr.
func TestPutting(t *testing.T) {
	wantExpr(t, "a := b", "bin::=@2(name:a@0 name:b@5)")
	wantExpr(t, "a := b := c", "bin::=@2(name:a@0 bin::=@7(name:b@5 name:c@10))")
	wantExpr(t, "a, b := c, d", "bin::=@5(tuple@1(name:a@0 name:b@3) tuple@9(name:c@8 name:d@11))")
	wantExpr(t, "a := b; c", "seq@6(bin::=@2(name:a@0 name:b@5) name:c@8)")
	wantExpr(t, "a := if b then c", "bin::=@2(name:a@0 if@5(name:b@8 name:c@15))")
	wantExpr(t, "a := let b = c in d; e", "bin::=@2(name:a@0 let@5(bind@9(pname:b@9 name:c@13) seq@19(name:d@18 name:e@21)))")
	wantExpr(t, "a.b <- c", "set:b@4(name:a@0 name:c@7)")
	wantExpr(t, "a.b.c <- d", "set:c@6(get:b@1(name:a@0) name:d@9)")
	wantExpr(t, "a.(b) <- c", "put@6(name:a@0 name:b@3 name:c@9)")
	wantExpr(t, "a.(b; c).(d) <- e", "put@13(at@1(name:a@0 seq@4(name:b@3 name:c@6)) name:d@10 name:e@16)")
	wantExpr(t, "a.b.(c).d <- e", "set:d@10(at@3(get:b@1(name:a@0) name:c@5) name:e@13)")
	wantExpr(t, "a.b <- c.d <- e", "set:b@4(name:a@0 set:d@11(name:c@7 name:e@14))")
	wantExpr(t, "a.b <- c := d, e", "set:b@4(name:a@0 bin::=@9(name:c@7 tuple@13(name:d@12 name:e@15)))")
	wantExpr(t, "a.b := c.(d) <- e", "bin::=@4(get:b@1(name:a@0) put@13(name:c@7 name:d@10 name:e@16))")
	wantExpr(t, "(a.b) <- c", "set:b@6(name:a@1 name:c@9)")
	wantExpr(t, "begin (a.(b)) end <- c", "put@18(name:a@7 name:b@10 name:c@21)")
	wantExpr(t, "(f a).b <- c", "set:b@8(app@1(name:f@1 name:a@3) name:c@11)")
	wantExpr(t, "(!a).b <- c", "set:b@7(un:!@1(name:a@2) name:c@10)")
	for s, place := range map[string]int{"a <- b": 2, "1 <- b": 2, "A <- b": 2, "() <- b": 3, "!a.b <- c": 5, "f a.b <- c": 6, "-a.b <- c": 5, "not a.b <- c": 8, "a.b, c.d <- e": 9, "a.b + c.d <- e": 10, "a.b || c.d <- e": 11,
		"a.b c <- d": 6, "raise a.b <- c": 10, "A a.b <- c": 6, "(a.b; c.d) <- e": 11, "(a.b <- c) <- d": 11, "(a.(b) <- c) <- d": 13, "[a.b] <- c": 6, "a :: b.c <- d": 9, "a <- )": 2, "a.b <- c <- d": 9, "(let a = b in a.b) <- c": 19, "a := b <- c": 7} {
		wantFault(t, "let _ = "+s, api.ErrSyntax, 8+place)
	}
}

func TestJoining(t *testing.T) {
	wantExpr(t, "a, b, c", "tuple@1(name:a@0 name:b@3 name:c@6)")
	wantExpr(t, "(a, b), c", "tuple@6(tuple@2(name:a@1 name:b@4) name:c@8)")
	wantExpr(t, "a, (b, c)", "tuple@1(name:a@0 tuple@5(name:b@4 name:c@7))")
	for _, sign := range []string{"||", "&&", "^"} { // from the right
		wantExpr(t, "aa "+sign+" bb "+sign+" cc", told(join(sign, 3, leaf("aa", 0), join(sign, 7+len(sign), leaf("bb", 4+len(sign)), leaf("cc", 8+2*len(sign)))), 0))
		wantExpr(t, "(aa "+sign+" bb) "+sign+" cc", told(join(sign, 9+len(sign), join(sign, 4, leaf("aa", 1), leaf("bb", 5+len(sign))), leaf("cc", 10+2*len(sign))), 0))
	}
	for _, sign := range []string{"=", "<>", "<", ">", "<=", ">=", "+", "-", "*", "/", "mod"} { // from the left
		wantExpr(t, "aa "+sign+" bb "+sign+" cc", told(join(sign, 7+len(sign), join(sign, 3, leaf("aa", 0), leaf("bb", 4+len(sign))), leaf("cc", 8+2*len(sign))), 0))
		wantExpr(t, "aa "+sign+" (bb "+sign+" cc)", told(join(sign, 3, leaf("aa", 0), join(sign, 8+len(sign), leaf("bb", 5+len(sign)), leaf("cc", 9+2*len(sign)))), 0))
	}
	wantExpr(t, "a :: b", "con:::@2(tuple@2(name:a@0 name:b@5))")
	wantExpr(t, "a :: b :: c", "con:::@2(tuple@2(name:a@0 con:::@7(tuple@7(name:b@5 name:c@10))))")
	wantExpr(t, "(a :: b) :: c", "con:::@9(tuple@9(con:::@3(tuple@3(name:a@1 name:b@6)) name:c@12))")
	wantExpr(t, "a = b < c <> d", "bin:<>@10(bin:<@6(bin:=@2(name:a@0 name:b@4) name:c@8) name:d@13)")
	wantExpr(t, "a - b + c - d", "bin:-@10(bin:+@6(bin:-@2(name:a@0 name:b@4) name:c@8) name:d@12)")
	wantExpr(t, "a / b mod c * d", "bin:*@12(bin:mod@6(bin:/@2(name:a@0 name:b@4) name:c@10) name:d@14)")
}

func leaf(s string, at int) api.Node { return api.Node{Kind: api.NName, At: at, S: s} }

func join(sign string, at int, parts ...api.Node) api.Node {
	return api.Node{Kind: api.NBin, At: at, S: sign, L: parts}
}

// Of two rules that follow one another the later one binds more, on either side.
func TestWhatBindsMore(t *testing.T) {
	wantExpr(t, "a || b, c || d", "tuple@6(bin:||@2(name:a@0 name:b@5) bin:||@10(name:c@8 name:d@13))")
	wantExpr(t, "a && b || c && d", "bin:||@7(bin:&&@2(name:a@0 name:b@5) bin:&&@12(name:c@10 name:d@15))")
	wantExpr(t, "a = b && c = d", "bin:&&@6(bin:=@2(name:a@0 name:b@4) bin:=@11(name:c@9 name:d@13))")
	wantExpr(t, "a ^ b = c ^ d", "bin:=@6(bin:^@2(name:a@0 name:b@4) bin:^@10(name:c@8 name:d@12))")
	wantExpr(t, "a :: b ^ c :: d", "bin:^@7(con:::@2(tuple@2(name:a@0 name:b@5)) con:::@11(tuple@11(name:c@9 name:d@14)))")
	wantExpr(t, "a + b :: c - d", "con:::@6(tuple@6(bin:+@2(name:a@0 name:b@4) bin:-@11(name:c@9 name:d@13)))")
	wantExpr(t, "a * b + c / d", "bin:+@6(bin:*@2(name:a@0 name:b@4) bin:/@10(name:c@8 name:d@12))")
	wantExpr(t, "- a * - b", "bin:*@4(un:-@0(name:a@2) un:-@6(name:b@8))")
	wantExpr(t, "not a = not b", "bin:=@6(un:not@0(name:a@4) un:not@8(name:b@12))")
	wantExpr(t, "- f a", "un:-@0(app@2(name:f@2 name:a@4))")
	wantExpr(t, "f a - b", "bin:-@4(app@0(name:f@0 name:a@2) name:b@6)")
	wantExpr(t, "f -1", "bin:-@2(name:f@0 int=1@3)")
	wantExpr(t, "- not - a", "un:-@0(un:not@2(un:-@6(name:a@8)))")
	wantExpr(t, "a - - b", "bin:-@2(name:a@0 un:-@4(name:b@6))")
}

func TestApp(t *testing.T) {
	wantExpr(t, "f", "name:f@0")
	wantExpr(t, "(f)", "name:f@1")
	wantExpr(t, "f a b", "app@0(name:f@0 name:a@2 name:b@4)")
	wantExpr(t, "(f a) b", "app@1(app@1(name:f@1 name:a@3) name:b@6)")
	wantExpr(t, "a.f b", "app@1(get:f@1(name:a@0) name:b@4)") // at its first part's place
	wantExpr(t, "f 1 \"a\" true false b C (d) begin e end [] [||] {g = h} !i", "app@0(name:f@0 int=1@2 text:a@4 bool=1@8 bool@13 name:b@19 con:C@21 name:d@24 name:e@33 list@39 array@42 record@47(field:g@48(name:h@52)) un:!@55(name:i@56))")
	wantExpr(t, "f A a", "app@0(name:f@0 con:A@2 name:a@4)")
	wantExpr(t, "1 2", "app@0(int=1@0 int=2@2)")
	wantExpr(t, "A", "con:A@0")
	wantExpr(t, "A a", "con:A@0(name:a@2)")
	wantExpr(t, "A (B b)", "con:A@0(con:B@3(name:b@5))")
	wantExpr(t, "A B", "con:A@0(con:B@2)")
	wantExpr(t, "A !b.c", "con:A@0(un:!@2(get:c@4(name:b@3)))")
	wantExpr(t, "A a.b", "con:A@0(get:b@3(name:a@2))")
	wantExpr(t, "A + B", "bin:+@2(con:A@0 con:B@4)")
	wantExpr(t, "(A) b", "app@1(con:A@1 name:b@4)")
	for _, s := range []string{"1", "\"a\"", "true", "a", "B", "(a)", "begin a end", "[]", "[||]", "{a=1}", "!a"} { // whatever begins a post
		n, e, _ := parse.Parse("let _ = A " + s)
		if e != api.OK || len(n.L[0].L[0].L[1].L) != 1 {
			t.Errorf("A %s: error %d, %s", s, e, told(n, 0))
		}
	}
	wantExpr(t, "raise a", "raise@0(name:a@6)")
	wantExpr(t, "raise A", "raise@0(con:A@6)")
	wantExpr(t, "raise (A a)", "raise@0(con:A@7(name:a@9))")
	wantExpr(t, "raise !a.b", "raise@0(un:!@6(get:b@8(name:a@7)))")
	wantExpr(t, "- raise A.a", "un:-@0(raise@2(get:a@9(con:A@8)))")
	for s, place := range map[string]int{"A 1 2": 4, "A a.b c": 6, "raise A a": 8, "raise raise a": 6, "raise - a": 6, "f raise a": 2, "f not a": 2, "A not a": 2, "(f let a = b in c)": 3, "- fun x -> x": 2, "a + if b then c": 4, "a || function x -> b": 5,
		"A.a": 1, "A.(0)": 1, "A a.(": 5} {
		wantFault(t, "let _ = "+s, api.ErrSyntax, 8+place)
	}
}

func TestPost(t *testing.T) {
	wantExpr(t, "!a", "un:!@0(name:a@1)")
	wantExpr(t, "!!a", "un:!@0(un:!@1(name:a@2))")
	wantExpr(t, "!a.b", "un:!@0(get:b@2(name:a@1))")
	wantExpr(t, "(!a).b", "get:b@4(un:!@1(name:a@2))")
	wantExpr(t, "!f a", "app@0(un:!@0(name:f@1) name:a@3)")
	wantExpr(t, "a.b", "get:b@1(name:a@0)")
	wantExpr(t, "a . b . c", "get:c@6(get:b@2(name:a@0))")
	wantExpr(t, "a.(b)", "at@1(name:a@0 name:b@3)")
	wantExpr(t, "a.(b; c)", "at@1(name:a@0 seq@4(name:b@3 name:c@6))")
	wantExpr(t, "a.(b).c.(d)", "at@7(get:c@5(at@1(name:a@0 name:b@3)) name:d@9)")
	wantExpr(t, "[1].(0)", "at@3(list@0(int=1@1) int@5)")
	wantExpr(t, "f a.b c.(d)", "app@0(name:f@0 get:b@3(name:a@2) at@7(name:c@6 name:d@9))")
	wantExpr(t, "f A.a", "app@0(name:f@0 get:a@3(con:A@2))")
	for s, place := range map[string]int{"a.1": 2, "a.B": 2, "a.": 2, "a.let": 2, "a.()": 3, "a. (b)": 3, "!": 1, "! - a": 2, "a.(b": 4, "a.(b]": 4} {
		wantFault(t, "let _ = "+s, api.ErrSyntax, 8+place)
	}
}

func TestAtom(t *testing.T) {
	wantExpr(t, "4611686018427387903", "int=4611686018427387903@0")
	wantExpr(t, `"a\n"`, "text:a\n@0")
	wantExpr(t, `""`, "text@0")
	wantExpr(t, "true", "bool=1@0")
	wantExpr(t, "false", "bool@0")
	wantExpr(t, "( )", "unit@0")
	wantExpr(t, "((()))", "unit@2")
	wantExpr(t, "(a; b)", "seq@2(name:a@1 name:b@4)")
	wantExpr(t, "begin a; b end", "seq@7(name:a@6 name:b@9)")
	wantExpr(t, "[]", "list@0")
	wantExpr(t, "[a]", "list@0(name:a@1)")
	wantExpr(t, "[a;]", "list@0(name:a@1)")
	wantExpr(t, "[a, b; c; (d; e);]", "list@0(tuple@2(name:a@1 name:b@4) name:c@7 seq@12(name:d@11 name:e@14))")
	wantExpr(t, "[|  |]", "array@0")
	wantExpr(t, "[|a|]", "array@0(name:a@2)")
	wantExpr(t, "[|a; b|]", "array@0(name:a@2 name:b@5)")
	wantExpr(t, "[|a := b; c;|]", "array@0(bin::=@4(name:a@2 name:b@7) name:c@10)")
	wantExpr(t, "[fun x -> a; b]", "list@0(fun@1(pname:x@5 seq@11(name:a@10 name:b@13)))")
	wantExpr(t, "[if a then b; c]", "list@0(if@1(name:a@4 name:b@11) name:c@14)")
	wantExpr(t, "{a = b}", "record@0(field:a@1(name:b@5))")
	wantExpr(t, "{a = b;}", "record@0(field:a@1(name:b@5))")
	wantExpr(t, "{a = b, c; d = e = f;}", "record@0(field:a@1(tuple@6(name:b@5 name:c@8)) field:d@11(bin:=@17(name:e@15 name:f@19)))")
	wantExpr(t, "{a = fun x -> b; c = d}", "record@0(field:a@1(fun@5(pname:x@9 seq@15(name:b@14 bin:=@19(name:c@17 name:d@21)))))")
	wantExpr(t, "{a = {b = []}}", "record@0(field:a@1(record@5(field:b@6(list@10))))")
}

// Signs' bytes in a text are none of them.
func TestTextsAreNoSigns(t *testing.T) {
	wantExpr(t, `"let"`, "text:let@0")
	wantExpr(t, `f "-" ")"`, "app@0(name:f@0 text:-@2 text:)@6)")
	wantPat(t, `"|"`, "ptext:|@0")
	wantFault(t, `"let" _ = 1`, api.ErrSyntax, 0)
	wantFault(t, `let _ "=" 1`, api.ErrSyntax, 6)
	wantFault(t, `let _ = (1 ")"`, api.ErrSyntax, 14)
}

func TestPatterns(t *testing.T) {
	wantPat(t, "1", "pint=1@0")
	wantPat(t, "- 1", "pint=-1@0")
	wantPat(t, "-4611686018427387903", "pint=-4611686018427387903@0")
	wantPat(t, "-0", "pint@0")
	wantPat(t, `"a"`, "ptext:a@0")
	wantPat(t, "true", "pbool=1@0")
	wantPat(t, "false", "pbool@0")
	wantPat(t, "_", "pany@0")
	wantPat(t, "_a", "pname:_a@0")
	wantPat(t, "A", "pcon:A@0")
	wantPat(t, "()", "punit@0")
	wantPat(t, "((a))", "pname:a@2")
	wantPat(t, "[]", "plist@0")
	wantPat(t, "[a]", "plist@0(pname:a@1)")
	wantPat(t, "[a; b | c; d as e;]", "plist@0(pname:a@1 por@6(pname:b@4 pname:c@8) pas:e@13(pname:d@11))")
	wantPat(t, "{a = b}", "precord@0(pfield:a@1(pname:b@5))")
	wantPat(t, "{a = b; c = d, e as f;}", "precord@0(pfield:a@1(pname:b@5) pfield:c@8(pas:f@17(ptuple@13(pname:d@12 pname:e@15))))")
	wantPat(t, "A a", "pcon:A@0(pname:a@2)")
	wantPat(t, "A -1", "pcon:A@0(pint=-1@2)")
	wantPat(t, "A B", "pcon:A@0(pcon:B@2)")
	wantPat(t, "A (B b)", "pcon:A@0(pcon:B@3(pname:b@5))")
	for _, s := range []string{"1", "- 1", "\"a\"", "true", "false", "_", "a", "B", "()", "(a)", "[]", "[a]", "{a=b}"} { // whatever is a patom
		n, e, _ := parse.Parse("let _ = function A " + s + " -> fun " + s + " " + s + " -> 0")
		if arm := n.L; e != api.OK || len(arm) != 1 || len(arm[0].L[0].L[1].L[0].L[0].L) != 1 || len(arm[0].L[0].L[1].L[0].L[1].L) != 3 {
			t.Errorf("A %s: error %d, %s", s, e, told(n, 0))
		}
	}
	wantPat(t, "a :: b :: c", "pcon:::@2(ptuple@2(pname:a@0 pcon:::@7(ptuple@7(pname:b@5 pname:c@10))))")
	wantPat(t, "(a :: b) :: c", "pcon:::@9(ptuple@9(pcon:::@3(ptuple@3(pname:a@1 pname:b@6)) pname:c@12))")
	wantPat(t, "A a :: B b", "pcon:::@4(ptuple@4(pcon:A@0(pname:a@2) pcon:B@7(pname:b@9)))")
	wantPat(t, "a, b, c", "ptuple@1(pname:a@0 pname:b@3 pname:c@6)")
	wantPat(t, "a :: b, c :: d", "ptuple@6(pcon:::@2(ptuple@2(pname:a@0 pname:b@5)) pcon:::@10(ptuple@10(pname:c@8 pname:d@13)))")
	wantPat(t, "a | b | c", "por@2(pname:a@0 por@6(pname:b@4 pname:c@8))")
	wantPat(t, "(a | b) | c", "por@8(por@3(pname:a@1 pname:b@5) pname:c@10)")
	wantPat(t, "a, b | c, d", "por@5(ptuple@1(pname:a@0 pname:b@3) ptuple@8(pname:c@7 pname:d@10))")
	wantPat(t, "a as b", "pas:b@2(pname:a@0)")
	wantPat(t, "a | b as c as d", "pas:d@11(pas:c@6(por@2(pname:a@0 pname:b@4)))")
	wantPat(t, "a, (b as c)", "ptuple@1(pname:a@0 pas:c@6(pname:b@4))")
	for s, place := range map[string]int{"-": 2, "- -1": 2, "-a": 1, "!a": 0, "a b": 2, "A a b": 4, "- 1 2": 4, "a.b": 1, "[|a|]": 0, "{}": 1, "{a}": 2, "{1 = a}": 1, "(a": 3, "[a": 3, "[;]": 1, "[a;;]": 2, "a as B": 5, "a as": 5, "a as _": 5, "a as b | c": 7, "a as b, c": 6, "a,": 3, "a |": 4, "a ::": 5, "begin a end": 0, "a + b": 2} {
		wantFault(t, "let _ = function "+s+" -> 0", api.ErrSyntax, 17+place)
	}
}

func TestTypes(t *testing.T) {
	wantType(t, "int", "tname:int@0")
	wantType(t, "(int)", "tname:int@1")
	wantType(t, "int list", "tapp:list@4(tname:int@0)")
	wantType(t, "int list ref", "tapp:ref@9(tapp:list@4(tname:int@0))")
	wantType(t, "a * b", "ttuple@2(tname:a@0 tname:b@4)")
	wantType(t, "a * b * c", "ttuple@2(tname:a@0 tname:b@4 tname:c@8)")
	wantType(t, "(a * b) * c", "ttuple@8(ttuple@3(tname:a@1 tname:b@5) tname:c@10)")
	wantType(t, "a list * b", "ttuple@7(tapp:list@2(tname:a@0) tname:b@9)")
	wantType(t, "(a * b) list", "tapp:list@8(ttuple@3(tname:a@1 tname:b@5))")
	wantType(t, "a -> b -> c", "tarrow@2(tname:a@0 tarrow@7(tname:b@5 tname:c@10))")
	wantType(t, "(a -> b) -> c", "tarrow@9(tarrow@3(tname:a@1 tname:b@6) tname:c@12)")
	wantType(t, "a * b -> c * d", "tarrow@6(ttuple@2(tname:a@0 tname:b@4) ttuple@11(tname:c@9 tname:d@13))")
	for s, place := range map[string]int{"": 0, "A": 0, "1": 0, "_": 0, "()": 1, "(a": 2, "a *": 3, "a ->": 4, "a (b)": 2, "a, b": 1, "a A": 2, "a -> * b": 5, "(a, b) c": 2} {
		wantFault(t, "exception E of "+s, api.ErrSyntax, 15+place)
	}
}
