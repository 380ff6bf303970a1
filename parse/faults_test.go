package parse_test

import (
	"strings"
	"testing"

	"grapnel/api"
	"grapnel/parse"
)

// P8.1

func TestLexsFaultsComeFirst(t *testing.T) {
	wantFault(t, strings.Repeat(" ", api.MaxSource+1), api.ErrBytes, 0)
	wantPart(t, strings.Repeat(" ", api.MaxSource), "program@0", 0)
	wantFault(t, "let _ = 1a", api.ErrToken, 8)
	wantFault(t, "let let ) # 1", api.ErrToken, 10)
	wantFault(t, "let _ = 4611686018427387904", api.ErrRange, 8)
	wantFault(t, ") 4611686018427387904", api.ErrRange, 2)
	wantFault(t, "in (* \"", api.ErrToken, 3)
	wantFault(t, many(5000)[:4000]+"\x00", api.ErrToken, 4000)
}

func TestTheFirstTokenThatCantStandThere(t *testing.T) {
	for s, place := range map[string]int{
		// prog, item
		"1": 0, "in": 0, ";;": 0, " ;;": 1, "exception A;;;;": 13, "a = 1": 0, "(let a = 1)": 0, "let a = 1;": 10, "let a = 1 in 2": 10, "exception A; exception B": 11, "let a = 1; let b = 2": 20, "rec": 0, "end": 0,
		// let, bind
		"let": 3, "let rec": 7, "let rec rec a = 1": 8, "let a": 5, "let a =": 7, "let = 1": 4, "let a b": 7, "let a := 1": 6, "let a = 1 and": 13, "let a = 1 and rec b = 2": 14, "let a and b = 1": 6, "let a.b = 1": 5, "let !a = 1": 4, "let f x -> 1": 8, "let f x + = 1": 8,
		"let a : int = 1": 6, "let f (x : int) = 1": 9, "let f begin x end = 1": 6, "let 1 2 = 3": 6,
		// type, exception
		"type": 4, "type T = A": 5, "type t": 6, "type t =": 8, "type t = a": 9, "type t = |": 10, "type t = A |": 12, "type t = A of": 13, "type t = A B": 11, "type t = A | | B": 13, "type t = { }": 11, "type t = {": 10, "type t = {a}": 11, "type t = {a : }": 14, "type t = {a : int": 17,
		"type t = {a : int, b : int}": 17, "type t = {a : int;; b : int}": 17, "type t = {; a : int}": 10, "type t = {A : int}": 10, "type t = {mutable : int}": 18, "type t = {mutable mutable a : int}": 18, "type t = {a = int}": 12, "type rec t = A": 5, "type t = A and u = B": 11,
		"type t = int": 9, "exception": 9, "exception a": 10, "exception E of": 14, "exception E of A": 15, "exception E E": 12, "exception E = F": 12, "exception E | F": 12,
	} {
		wantFault(t, s, api.ErrSyntax, place)
	}
}

func TestTheFirstTokenThatCantStandInAnExpression(t *testing.T) {
	for s, place := range map[string]int{
		"": 0, ";": 0, "a;": 2, "(a;)": 3, "a;;b": 3, "let a = b": 9, "let a = b in": 12, "let a = b and c in d": 16, "fun -> a": 4, "fun a": 5, "fun a = b": 6, "fun a b ->": 10, "fun a, b -> c": 5, "fun A a | b -> c": 8,
		"function": 8, "function |": 10, "function a": 10, "function a ->": 13, "function a -> b |": 17, "function a = b": 11, "function a when": 15, "function a when b": 17, "function a when b; c -> d": 17, "function | | a -> b": 11, "function a -> b | -> c": 18,
		"match": 5, "match a": 7, "match a with": 12, "match with a -> b": 6, "match a with |": 14, "match a in b -> c": 8, "match a with 1 2 -> 3": 15, "try": 3, "try a": 5, "try a with": 10, "try with a -> b": 4, "try a then b": 6,
		"if": 2, "if a": 4, "if a else b": 5, "if a then": 9, "if a then else b": 10, "if a then b else": 16, "if a; b then c": 4, "if a then b else c else d": 19,
		"while": 5, "while a": 7, "while a do": 10, "while a do b": 12, "while do a done": 6, "while a do done": 11, "while a done": 8, "while a do b end": 13,
		"for": 3, "for A = a to b do c done": 4, "for i": 5, "for i a": 6, "for i =": 7, "for i = a": 9, "for i = a do b done": 10, "for i = a to": 12, "for i = a to b": 14, "for i = a to b to c do d done": 15, "for i = a downto b done": 19, "for i = a to b do": 17, "for i = a to b do c": 19, "for i = a to b do done": 18, "for i = a; b to c do d done": 9, "for (i) = a to b do c done": 4,
		"a :=": 4, "a := := b": 5, "a.b <-": 6, "a,": 2, "a, , b": 3, ", a": 0, "a ||": 4, "a || || b": 5, "a &&": 4, "a =": 3, "a = = b": 4, "a <": 3, "a ^": 3, "a ::": 4, "a +": 3, "a -": 3, "a *": 3, "a * * b": 4, "a mod": 5, "+ a": 0, "* a": 0, "-": 1, "not": 3, "a not b": 2, "a as b": 2, "a : int": 2, "_": 0, "f _": 2,
		"(": 1, "(a": 2, "(a]": 2, ")": 0, "begin": 5, "begin end": 6, "begin a": 7, "begin a )": 8, "(a end": 3, "[": 1, "[a": 2, "[;]": 1, "[a;;b]": 2, "[a; ;b]": 4, "[a b": 4, "[a|]": 2, "[|": 2, "[|a]": 3, "[|;|]": 2, "[|a;|": 4, "]": 0, "|]": 0, "[a, ]": 4,
		"{": 1, "{}": 1, "{a}": 2, "{a =}": 4, "{a = b": 6, "{a = b; c}": 9, "{a = b;; c = d}": 6, "{;a = b}": 1, "{A = b}": 1, "{a : b}": 3, "{a = b, c = }": 12, "{a = b]": 6, "{a = b; 1 = c}": 8, "{(a) = b}": 1, "mutable": 0, "type": 0, "of": 0,
	} {
		wantFault(t, "let _ = "+s, api.ErrSyntax, 8+place)
	}
}

// What is open takes the ; and whatever comes behind it; then it is no list's any more.
func TestWhatIsOpenTakesTheRest(t *testing.T) {
	for s, place := range map[string]int{"[fun x -> a;]": 12, "[|let a = b in c;|]": 17, "{a = function x -> b;}": 21, "{a = match b with x -> c; d = let e = f in g}": 30, "[a; if b then fun x -> c;]": 25, "[a := fun x -> b;]": 17} {
		wantFault(t, "let _ = "+s, api.ErrSyntax, 8+place)
	}
	wantExpr(t, "[(fun x -> a);]", "list@0(fun@2(pname:x@6 name:a@11))")
}

// many makes a source of n nodes, none of them deep: five are always there, and a tuple's parts are nine (in eight bytes) or one.
func many(n int) string {
	parts := strings.Repeat(",f!a+f!a", (n-5)/9) + strings.Repeat(",a", (n-5)%9)
	return "let _=" + parts[1:]
}

func TestManyParts(t *testing.T) {
	for _, n := range []int{5 + 18, 4000, api.MaxParts - 1, api.MaxParts} {
		tree, e, at := parse.Parse(many(n))
		if e != api.OK || at != 0 || len(flat(tree, 1, nil)) != n {
			t.Errorf("%d nodes: error %d at %d, %d are there", n, e, at, len(flat(tree, 1, nil)))
		}
	}
	for _, n := range []int{api.MaxParts + 1, api.MaxParts + 2, 4600} {
		wantFault(t, many(n), api.ErrMany, 0)
	}
}

func TestWhichFaultComesFirst(t *testing.T) {
	s := many(api.MaxParts + 1)
	wantFault(t, s+" )", api.ErrSyntax, len(s)+1)
	wantFault(t, "let _="+strings.Repeat("f!a+", 1000)+"a", api.ErrMany, 0) // deep, too
	wantFault(t, "let _="+strings.Repeat("- ", 500)+")", api.ErrSyntax, 6+1000)
}

func TestDeepTrees(t *testing.T) {
	for _, c := range []struct {
		ahead, more, behind string
		fits                int // so often more there can be
		one, two            int // the places that are told with one more than fits, and with two
	}{
		{"let _=", "-", "1", 146, 6 + 147, 6 + 147},
		{"let _=", "!", "a", 146, 6 + 147, 6 + 147},
		{"let _=", "a+", "a", 146, 6, 7}, // from the left: the first a, then the first +
		{"let _=a", ".b", "", 146, 6, 7},
		{"let _=", "a^", "a", 146, 6 + 2*147 - 2, 6 + 2*147 - 2},
		{"let _=", "a;", "a", 146, 6 + 2*147 - 2, 6 + 2*147 - 2},
		{"let _=", "a::", "a", 73, 6 + 3*73 + 1, 6 + 3*73 + 1},
		{"let _=", "if a then ", "b", 146, 6 + 10*146 + 3, 6 + 10*146 + 3},
		{"let _=", "function _->", "b", 73, 6 + 12*73 + 9, 6 + 12*73 + 9},
		{"let _=", "fun x->", "b", 146, 6 + 7*146 + 4, 6 + 7*146 + 4},
		{"let a", " as a", "=1", 146, 4, 6},
		{"let ", "a::", "a=1", 73, 4 + 3*73 + 1, 4 + 3*73 + 1},
		{"exception E of ", "a->", "a", 147, 15 + 3*147, 15 + 3*147},
		{"exception E of a", " a", "", 147, 15, 17},
	} {
		source := func(n int) string { return c.ahead + strings.Repeat(c.more, n) + c.behind }
		for n := range c.fits + 1 {
			if tree, e, at := parse.Parse(source(n)); e != api.OK || at != 0 || tree.Kind != api.Program {
				t.Errorf("%d times %q: error %d at %d", n, c.more, e, at)
			}
		}
		wantFault(t, source(c.fits+1), api.ErrDeep, c.one)
		wantFault(t, source(c.fits+2), api.ErrDeep, c.two)
	}
}

// Of two branches that are too deep the left one is told; of one, the node that is one too deep, not what is in it.
func TestTheFirstThatIsTooDeep(t *testing.T) {
	minus := strings.Repeat("-", 147)
	wantFault(t, "let _=a,"+minus+"1", api.ErrDeep, 8+146)
	wantFault(t, "let _=a,"+minus+"1,"+minus+"1", api.ErrDeep, 8+146)
	wantFault(t, "let _=a let _="+minus+"b let _="+minus+"--b", api.ErrDeep, 14+147)
	wantFault(t, "let _=("+minus+"b)-b", api.ErrDeep, 7+146)
	list := func(n int) string { return "let _=" + strings.Repeat("[", n) + "a" + strings.Repeat("]", n) }
	wantFault(t, list(147), api.ErrDeep, 6+147)
	wantFault(t, list(2000), api.ErrDeep, 6+147)
	if _, e, _ := parse.Parse(list(146)); e != api.OK {
		t.Errorf("error %d", e)
	}
}

// Brackets leave no node, so they aren't deep.
func TestBracketsArentDeep(t *testing.T) {
	open, closing := strings.Repeat("(", 2000), strings.Repeat(")", 2000)
	wantExpr(t, open+"a"+closing, "name:a@2000")
	wantPat(t, open+"a"+closing, "pname:a@2000")
	wantType(t, open+"a"+closing, "tname:a@2000")
	wantExpr(t, strings.Repeat("begin ", 400)+"a"+strings.Repeat(" end", 400), "name:a@2400")
	wantFault(t, "let _ = "+open+"a"+closing+")", api.ErrSyntax, 8+4001)
	wantFault(t, "let _ = "+open, api.ErrSyntax, 8+2000)
}
