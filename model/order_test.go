package model_test

import (
	"math/rand"
	"strconv"
	"strings"
	"testing"

	"grapnel/api"
	"grapnel/arena"
	"grapnel/mem"
	"grapnel/model"
	"grapnel/order"
	"grapnel/text"
	"grapnel/word"
)

// P12.1: what an order tells, of pairs of which the first one is less.
func TestLess(t *testing.T) {
	for _, pair := range [][2]string{
		{"1", "2"}, {"-1", "0"}, {least, greatest}, {"false", "true"}, {`""`, `"a"`}, {`"a"`, `"ab"`}, {`"ab"`, `"b"`}, {`"a\x7f"`, `"a\x80"`}, {`"a"`, `"a\x00"`}, {`"\xfe"`, `"\xff"`},
		{"[]", "[1]"}, {"[1]", "[2]"}, {"[1; 9]", "[2]"}, {"[1]", "[1; 0]"}, {"(1, 9)", "(2, 0)"}, {"(1, 2)", "(1, 3)"}, {"A", "D"}, {"D", "B 0"}, {"B 9", "C (A, A)"}, {"B 1", "B 2"}, {"C (A, D)", "C (D, A)"},
		{"[|9|]", "[|0; 0|]"}, {"[||]", "[|0|]"}, {"[|1; 2|]", "[|1; 3|]"}, {"ref 1", "ref 2"}, {"{x = 1; y = D; z = 9}", "{x = 1; y = B 1; z = 0}"},
		{"Match_failure", "Not_found"}, {"Not_found", "N"}, {"N", `Failure "z"`}, {`Failure "z"`, `E "a"`}, {`E "a"`, "P (0, A)"}, {`("a", [(1, B 2)])`, `("a", [(1, B 3)])`},
	} {
		told := ""
		for _, op := range []string{"=", "<>", "<", ">", "<=", ">="} {
			told += "if (" + pair[0] + ") " + op + " (" + pair[1] + ") then print_int 1 else print_int 0; "
			told += "if (" + pair[1] + ") " + op + " (" + pair[0] + ") then print_int 1 else print_int 0; "
			told += "if (" + pair[0] + ") " + op + " (" + pair[0] + ") then print_int 1 else print_int 0; print_string \" \"; "
		}
		told += "print_int (compare (" + pair[0] + ") (" + pair[1] + ")); print_int (compare (" + pair[1] + ") (" + pair[0] + ")); print_int (compare (" + pair[1] + ") (" + pair[1] + "))"
		prints(t, told, "001 110 100 010 101 011 -110")
	}
}

// P12.1: of functions Invalid_argument is raised, where the order comes to one; not where it is told ahead of that.
func TestOrderOfFunctions(t *testing.T) {
	f := "let f x = x in "
	for _, op := range []string{"=", "<>", "<", ">", "<=", ">="} {
		raises(t, f+"f "+op+" f", "Invalid_argument", "")
		raises(t, f+"(1, f) "+op+" (1, f)", "Invalid_argument", "")
		raises(t, "print_int "+op+" print_int", "Invalid_argument", "")
		raises(t, "compare 1 "+op+" compare 1", "Invalid_argument", "")
	}
	raises(t, "compare (fun x -> x) (fun x -> x)", "Invalid_argument", "")
	number(t, f+"compare (1, f) (2, f)", "-1")
	number(t, f+"if [f] = [] then 1 else if [] < [f] then 2 else 3", "2")
	number(t, f+"let a = [f] in if a = a then 1 else 2", "1")
	number(t, f+"let a = (f, 1) in compare (1, a) (1, a)", "0")
	number(t, f+"try compare [|1; 2|] [|1; 3|] with Invalid_argument -> 5", "-1")
	number(t, f+"try compare (f, 1) (f, 2) with Invalid_argument -> 5", "5")
	// a function ahead of what any kind of value is
	comes(t, "let _ = compare (fun x -> x) 1", uncaught("Invalid_argument", ""))
	comes(t, `let _ = "a" < (fun x -> x)`, uncaught("Invalid_argument", ""))
	comes(t, `let _ = [1] < print_int`, uncaught("Invalid_argument", ""))
}

// What has no type has its place in the order, too: numbers, blocks by their tags, texts.
func TestOrderOfUnlikeKinds(t *testing.T) {
	comes(t, `let _ = print_int (compare 9 (1, 2)); print_int (compare (1, 2) "a"); print_int (compare "a" 9); print_int (compare "" [])`, done("-1-111"))
	comes(t, head+`let _ = print_int (compare (C (A, A)) (1, 2, 3)); print_int (compare (P (1, A)) "")`, done("1-1"))
}

// A circle is held against itself at once, against another one till there is no fuel.
func TestOrderOfCircles(t *testing.T) {
	circle := "type c = E | L of c ref let r = ref E let x = L r let s = ref E let y = L s let _ = r := x; s := y; "
	comes(t, circle+"if x = x then print_int 1", done("1"))
	comes(t, circle+"if x = L (ref (L (ref E))) then print_int 1 else print_int 2", done("2"))
	for _, fuel := range []int64{100, 5000, enough} {
		if got := run(t, circle+"print_int 1; x = y; print_int 2", fuel); got != (model.Ending{Kind: model.OutOfFuel, Out: "1"}) {
			t.Errorf("with %d: %+v", fuel, got)
		}
	}
	wide := "let a = array_make 4096 [||] let b = array_make 4096 [||] let _ = a.(0) <- a; b.(0) <- b; print_int 1; a = b"
	d, c := resolved(t, wide)
	if got := model.Run(d, c, nil, enough); got != (model.Ending{Kind: model.OutOfFuel, Out: "1"}) {
		t.Errorf("%+v", got)
	}
}

// thing is a value apart from the model: a number, a text, or a block.
type thing struct {
	kind   int
	n      int64
	s      string
	fields []*thing
}

const (
	aNumber = iota
	aText
	aBlock // a constructor's: what has one is P, E, C or B; else a tuple or an array
)

// random makes up a thing, of few numbers and texts, so that many are alike.
func random(r *rand.Rand, depth int) *thing {
	switch k := r.Intn(10); {
	case k < 3 || depth == 0:
		return &thing{n: int64(r.Intn(3)) - 1}
	case k < 5:
		return &thing{kind: aText, s: strings.Repeat("ab", 40)[:r.Intn(2)+70*r.Intn(2)]}
	default:
		v := &thing{kind: aBlock, n: int64(r.Intn(3))}
		for range r.Intn(4) {
			v.fields = append(v.fields, random(r, depth-1))
		}
		return v
	}
}

// core tells the core that makes the thing, as P12.1's blocks have it.
func (v *thing) core() api.Core {
	switch v.kind {
	case aNumber:
		return whole(v.n)
	case aText:
		return api.Core{Kind: api.KText, S: v.s}
	}
	c := api.Core{Kind: api.KCon, N: v.n}
	if v.n == 0 || len(v.fields) == 0 {
		c = api.Core{Kind: api.KArray}
	}
	for _, f := range v.fields {
		c.L = append(c.L, f.core())
	}
	return c
}

func (v *thing) lay(m *mem.Mem) api.Word {
	switch v.kind {
	case aNumber:
		return word.Int(v.n)
	case aText:
		w, _, _ := text.Lay(m, v.s, nil)
		return w
	}
	var all []api.Word
	for _, f := range v.fields {
		all = append(all, f.lay(m))
	}
	tag := int(v.n)
	if len(all) == 0 {
		tag = 0
	}
	w, _ := m.Arena().Alloc(tag, len(all))
	for i, x := range all {
		m.Arena().Set(w, i, x)
	}
	return w
}

// P12.1: an order tells, and takes, what chapter 6's Compare does with all the room that it may need; hash tells what chapter 6's does.
func TestOrdersAsInAnArena(t *testing.T) {
	seen := map[int]int{}
	for seed := range 3000 {
		r := rand.New(rand.NewSource(int64(seed)))
		v := random(r, 4)
		w := random(r, 4)
		if seed%3 == 0 {
			w = rand2(r, v)
		}
		m := mem.New(api.MaxSemi)
		told, taken, e := order.Compare(m.Arena(), v.lay(m), w.lay(m), 1<<20, 1<<30)
		if e != api.OK {
			t.Fatalf("seed %d: order tells %d", seed, e)
		}
		seen[told]++
		compare := api.Core{Kind: api.KApp, L: []api.Core{{Kind: api.KBuiltin, N: api.BCompare}, v.core(), w.core()}}
		isOrder(t, seed, compare, strconv.Itoa(told), 2+nodes(compare), taken)
		equal := op(api.OpEq, v.core(), w.core())
		isOrder(t, seed, equal, map[bool]string{true: "1", false: "0"}[told == 0], 2+nodes(equal), taken)
		isHash(t, seed, m.Arena(), v.lay(m), v.core())
	}
	if seen[0] < 300 || seen[1] < 300 || seen[-1] < 300 {
		t.Errorf("only %v", seen)
	}
}

// rand2 tells a thing that is another one but for a part here and there.
func rand2(r *rand.Rand, v *thing) *thing {
	if r.Intn(12) == 0 {
		return random(r, 2)
	}
	w := *v
	w.fields = nil
	for _, f := range v.fields {
		w.fields = append(w.fields, rand2(r, f))
	}
	return &w
}

// nodes counts a core's nodes, each of which takes 1.
func nodes(c api.Core) int64 {
	n := int64(1)
	for _, p := range c.L {
		n += nodes(p)
	}
	return n
}

// isOrder holds that a printed core comes to this with just the fuel that its nodes and pairs take, and doesn't with less.
func isOrder(t *testing.T, seed int, c api.Core, want string, nodes, pairs int64) {
	t.Helper()
	p := printed(c)
	if got := model.Run(api.Decls{}, p, nil, nodes+pairs); got != done(want) {
		t.Fatalf("seed %d: got %+v, want %s with %d and %d", seed, got, want, nodes, pairs)
	}
	for less := int64(1); less <= pairs; less++ {
		if got := model.Run(api.Decls{}, p, nil, nodes+pairs-less); got != (model.Ending{Kind: model.OutOfFuel}) {
			t.Fatalf("seed %d: got %+v with %d less than %d and %d", seed, got, less, nodes, pairs)
		}
	}
}

func isHash(t *testing.T, seed int, a *arena.Arena, w api.Word, c api.Core) {
	t.Helper()
	want, e := order.Hash(a, w, 1<<20)
	if e != api.OK {
		t.Fatalf("seed %d: order tells %d", seed, e)
	}
	p := printed(api.Core{Kind: api.KApp, L: []api.Core{{Kind: api.KBuiltin, N: api.BHash}, c}})
	if got := model.Run(api.Decls{}, p, nil, nodes(p)); got != done(word.Digits(want)) {
		t.Fatalf("seed %d: got %+v, want %s", seed, got, word.Digits(want))
	}
}

// P12.1: each pair that is held against each other takes 1.
func TestFuelOfOrders(t *testing.T) {
	for s, pairs := range map[string]int64{
		"compare 1 2": 1, "compare (1, 2) (1, 3)": 3, "compare (1, 2) (2, 3)": 2, "compare (1, 2) (1, 2)": 3, `compare "abc" "abc"`: 1, "compare [1; 2] [1; 2]": 5, "compare [|1; 2; 3|] [|1; 2|]": 1,
		"compare [] [1]": 1, "compare (B 1) (B 1)": 2, "compare (B 1) (C (A, A))": 1, "compare ((1, 2), (3, 4)) ((1, 2), (3, 4))": 7, "compare ((1, 2), (3, 4)) ((1, 5), (3, 4))": 4,
		"compare [||] [||]": 1, "compare (ref 1) (ref 1)": 2,
	} {
		takes(t, s, fuelOf(t, s)+pairs)
	}
	// one block is held against itself by one pair
	takes(t, "let x = (1, 2) in compare x x", 8+1)
	takes(t, "let x = (1, 2) in x = x", 7+1)
	takes(t, "let x = (1, 2) in (x, 1) = (x, 1)", 11+3)
	// where a function is met, its pair has taken 1
	takes(t, "try (1, print_int) = (1, print_int) with Invalid_argument -> false", 9+3)
	takes(t, "try print_int < print_int with Invalid_argument -> false", 5+1)
}

// fuelOf tells how many nodes an expression has that are all worked out once.
func fuelOf(t *testing.T, s string) int64 {
	t.Helper()
	_, c := resolved(t, head+"let _ = "+s)
	return nodes(c.L[0])
}

// MaxStack is no bound of an order: more pairs wait than a stack has words.
func TestWideOrders(t *testing.T) {
	wide := "let a n = let b = array_make 4096 0 in b.(4095) <- n; b let c x = let d = array_make 4096 [||] in d.(0) <- x; d let e x = let d = array_make 4096 [||] in d.(0) <- x; d let f x = e (c (a x)) "
	isTyped(t, wide)
	comes(t, wide+"let _ = print_int (compare (f 1) (f 2)); print_int (compare (f 3) (f 3))", done("-10"))
}

// P12.1: hash goes through 24 values, and of a text through 64 bytes; it raises where a function is among those values.
func TestHash(t *testing.T) {
	number(t, "hash 5", "222")
	number(t, "hash (-8)", "209")
	number(t, `hash ""`, "220")
	number(t, `hash "a" - 220 * 31`, "97")
	same := func(a, b, want string) {
		prints(t, "if hash ("+a+") = hash ("+b+") then print_int 1 else print_int 2", want)
	}
	long := strings.Repeat("a", 63)
	same(`"`+long+`b"`, `"`+long+`bc"`, "1")
	same(`"`+long+`b"`, `"`+long+`c"`, "2")
	for _, one := range []struct {
		many, at int
		told     string
	}{{2, 0, "0"}, {23, 22, "0"}, {24, 22, "0"}, {24, 23, "1"}, {40, 22, "0"}, {40, 23, "1"}, {40, 39, "1"}} {
		tuple := func(s string) string {
			all := strings.Split(strings.Repeat("1,", one.many-1)+"1", ",")
			all[one.at] = s
			return "(" + strings.Join(all, ",") + ")"
		}
		number(t, "try (hash "+tuple("compare")+"; 1) with Invalid_argument -> 0", one.told)
		same(tuple("2"), tuple("3"), map[string]string{"0": "2", "1": "1"}[one.told])
	}
	raises(t, "hash (fun x -> x)", "Invalid_argument", "")
	raises(t, "hash (1, print_int)", "Invalid_argument", "")
	raises(t, "hash [compare 1]", "Invalid_argument", "")
	prints(t, "let a = array_make 4096 (array_make 4096 (array_make 4096 1)) in hash a; print_int 1", "1")
	comes(t, "type c = E | L of c ref let r = ref E let x = L r let _ = r := x; hash x; print_int 1", done("1"))
	takes(t, "hash ((1, 2), [3; 4])", 11) // values that are gone through take nothing
}
