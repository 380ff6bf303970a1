package model_test

import (
	"math"
	"math/rand"
	"reflect"
	"strings"
	"testing"

	"grapnel/api"
	"grapnel/model"
)

// P12.1: what can't be done is Wrong, with what was written and read till then; nobody catches that.
func TestWrong(t *testing.T) {
	text, tuple, function := `"a"`, "(1, 2)", "(fun x -> x)"
	asks := map[string][]string{ // by what is of the wrong kind
		"@ + 1": {text, tuple, function}, "1 - @": {text, tuple, function}, "@ * 1": {text}, "1 / @": {text, tuple}, "@ mod 0": {text, tuple, function},
		"- @": {text, tuple, function}, "not @": {text, tuple, function}, "@ ^ \"\"": {"1", tuple, function}, "\"\" ^ @": {"1", tuple, function}, "!@": {"1", text, function, "[||]"}, "@ := 1": {"1", text, function, "[||]"},
		"@.x": {"1", text, function, "[||]"}, "@.z <- 1": {"1", text, tuple, function, "[||]"}, "@.(0)": {"1", text, function}, "[|1|].(@)": {text, tuple, function}, "@.(0) <- 1": {"1", text, function}, "[|1|].(@) <- 1": {text, tuple, function},
		"if @ then 1 else 2": {text, tuple, function}, "while @ do () done": {text, tuple, function}, "@ && true": {text, tuple, function}, "@ || true": {text, tuple, function},
		"for i = @ to 1 do () done": {text, tuple, function}, "for i = 1 to @ do () done": {text, tuple, function}, "for i = 5 downto @ do () done": {text},
		"print_int @": {text, tuple, function}, "print_string @": {"1", tuple, function}, "exit @": {text, tuple, function}, "string_of_int @": {text, tuple, function}, "int_of_string @": {"1", tuple, function}, "string_length @": {"1", tuple, function},
		"string_get @ 0": {"1", tuple, function}, "string_get \"a\" @": {text, tuple, function}, "array_make @ 1": {text, tuple, function}, "array_length @": {"1", text, function},
	}
	for s, all := range asks {
		for _, x := range all {
			s := "let _ = try print_string (read_line ()); (" + strings.Replace(s, "@", x, 1) + ") with _ -> print_int 9"
			comes(t, head+s, model.Ending{Kind: model.Wrong, Out: "a", Read: 1}, "a", "b")
		}
	}
}

// A pattern of another kind of value isn't met; that isn't Wrong.
func TestPatternsOfOtherKinds(t *testing.T) {
	for _, s := range []string{
		`match "a" with 1 -> 2`, "match (1, 2) with 1 -> 2", "match print_int with 1 -> 2", `match 1 with "a" -> 2`, `match [1] with "a" -> 2`, `match print_int with "a" -> 2`, "match 1 with (x, y) -> 2", `match "a" with (x, y) -> 2`,
		"match print_int with (x, y) -> 2", "match (1, 2, 3) with (x, y) -> 2", "match 5 with [] -> 2", "match (1, 2) with B x -> 2", "match B 1 with x :: y -> 2", "match C (A, A) with B x -> 2", `match "a" with true -> 2`, "match print_int with [] -> 2",
		"match (1, 2) with {x = n} -> 2", "let (a, b) = 1 in 2", "match 1 with B x -> 2",
	} {
		comes(t, head+"let _ = "+s, uncaught("Match_failure", ""))
	}
	comes(t, head+"let _ = match 1 with true -> print_int 2", done("2")) // both are the number 1
}

// What is raised may be no exception: then it has no name.
func TestRaisesOfOtherKinds(t *testing.T) {
	comes(t, head+"let _ = raise 4", uncaught("Not_found", ""))
	for _, s := range []string{"99", "(-1)", `"a"`, "(fun x -> x)"} {
		comes(t, head+"let _ = print_int 1; raise "+s, uncaught("", "1"))
		comes(t, head+"let _ = try raise "+s+" with _ -> print_int 1", done("1"))
	}
}

// R1: what core.Resolve doesn't tell can't be done, where it comes to be asked for.
func TestNoForm(t *testing.T) {
	one, any := whole(1), api.Core{Kind: api.QAny}
	arm := func(l ...api.Core) api.Core { return api.Core{Kind: api.KCase, L: l} }
	for _, c := range []api.Core{
		{}, {Kind: -1}, {Kind: api.KOp + 1}, {Kind: api.KCase, L: []api.Core{any, one}}, any, {Kind: api.QAs + 1}, {Kind: math.MaxInt},
		{Kind: api.KVar}, {Kind: api.KVar, V: -1}, {Kind: api.KBuiltin}, {Kind: api.KBuiltin, N: 13}, {Kind: api.KBuiltin, N: -1},
		{Kind: api.KFun, L: []api.Core{one}}, {Kind: api.KFun, N: -1, L: []api.Core{one}}, {Kind: api.KRec}, {Kind: api.KRec, N: 1, L: []api.Core{one, one}}, {Kind: api.KRec, N: 1, L: []api.Core{{Kind: api.KFun}, one}},
		{Kind: api.KGet}, {Kind: api.KSet, L: []api.Core{one}}, {Kind: api.KAt}, {Kind: api.KPut, L: []api.Core{one, one}}, {Kind: api.KApp}, {Kind: api.KRaise}, {Kind: api.KLet}, {Kind: api.KLet, L: []api.Core{one}},
		{Kind: api.KIf}, {Kind: api.KIf, L: []api.Core{one}}, {Kind: api.KMatch}, {Kind: api.KMatch, L: []api.Core{one, arm(any)}}, {Kind: api.KTry}, {Kind: api.KWhile}, {Kind: api.KWhile, L: []api.Core{one}},
		{Kind: api.KFor}, {Kind: api.KFor, N: 1, L: []api.Core{one, one}}, {Kind: api.KSeq}, {Kind: api.KSeq, L: []api.Core{one}}, op(0, one, one), op(12, one, one), op(30, one), op(43, one, one), op(-1), op(api.OpAdd), op(api.OpAdd, one), op(api.OpNeg),
		op(math.MinInt64, one, one), {Kind: api.KGet, N: 2, L: []api.Core{{Kind: api.KTuple, L: []api.Core{one, one}}}}, {Kind: api.KGet, N: -1, L: []api.Core{{Kind: api.KTuple, L: []api.Core{one, one}}}},
		{Kind: api.KSet, N: 2, L: []api.Core{{Kind: api.KTuple, L: []api.Core{one, one}}, one}},
	} {
		whole := api.Core{Kind: api.KSeq, L: []api.Core{printed(one), c}}
		if got := model.Run(api.Decls{}, whole, nil, enough); got != wrong("1") {
			t.Errorf("%+v: got %+v", c, got)
		}
		unasked := api.Core{Kind: api.KIf, L: []api.Core{one, printed(one), c}}
		if got := model.Run(api.Decls{}, unasked, nil, enough); got != done("1") {
			t.Errorf("%+v: unasked, got %+v", c, got)
		}
	}
}

// wildCore makes up a core of any form.
func wildCore(r *rand.Rand, depth int) api.Core {
	c := api.Core{At: r.Intn(100), Kind: pick(r, r.Intn(27)-1, r.Intn(27)-1, 100+r.Intn(11), api.KCase)}
	c.N = pick(r, int64(r.Intn(4)), int64(r.Intn(45)), -1, math.MaxInt64, math.MinInt64)
	c.V = pick(r, r.Intn(4), r.Intn(4), -1, math.MaxInt, math.MinInt)
	c.S = pick(r, "", "()", "true", "[]", "::", "A", "x")
	for depth > 0 && r.Intn(4) > 0 {
		c.L = append(c.L, wildCore(r, depth-1))
	}
	return c
}

func pick[T any](r *rand.Rand, all ...T) T { return all[r.Intn(len(all))] }

// R1, R3: of any core a run ends without a panic, and the core is what it was.
func TestAnyCore(t *testing.T) {
	seen := map[int]int{}
	for seed := range 30000 {
		r := rand.New(rand.NewSource(int64(seed)))
		c := wildCore(r, 1+seed%5)
		got := model.Run(api.Decls{}, c, []string{"a"}, int64(r.Intn(500)))
		seen[got.Kind]++
		r = rand.New(rand.NewSource(int64(seed)))
		if seed%50 == 0 && !reflect.DeepEqual(c, wildCore(r, 1+seed%5)) {
			t.Fatalf("seed %d: changed", seed)
		}
	}
	for kind := model.Ended; kind <= model.Wrong; kind++ {
		if seen[kind] < 20 {
			t.Errorf("only %v", seen)
		}
	}
}

// changed tells a core in which a node here and there is another one.
func changed(r *rand.Rand, c api.Core) api.Core {
	switch r.Intn(50) {
	case 0:
		return wildCore(r, 2)
	case 1:
		c.Kind = wildCore(r, 0).Kind
	case 2:
		c.N = wildCore(r, 0).N
	case 3:
		c.V = wildCore(r, 0).V
	case 4:
		c.L = c.L[:r.Intn(len(c.L)+1)]
	}
	var parts []api.Core
	for _, p := range c.L {
		parts = append(parts, changed(r, p))
	}
	c.L = parts
	return c
}
