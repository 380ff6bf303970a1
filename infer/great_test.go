package infer_test

import (
	"strconv"
	"strings"
	"testing"
	"time"

	"grapnel/api"
	"grapnel/infer"
	"grapnel/types"
)

// great writes a tuple whose type has so many nodes.
func great(nodes int) string { return "(1" + strings.Repeat(",1", nodes-2) + ")" }

// greatMarked writes the same, its place marked.
func greatMarked(nodes int) string { return strings.Replace(great(nodes), ",", "@,", 1) }

// greatPattern writes a pattern whose type has so many nodes.
func greatPattern(nodes int) string { return "(_" + strings.Repeat(",_", nodes-2) + ")" }

// isFine holds that an expression has a type of so many nodes.
func isFine(t *testing.T, s string, nodes int) {
	t.Helper()
	d, c := expression(t, s)
	got, e, at := infer.Infer(d, c)
	if e != api.OK || at != 0 {
		t.Errorf("%.60s: %d at %d", s, e, at-len(head))
	} else if n := types.New().Size(got, 9999); n != nodes {
		t.Errorf("%.60s: %d nodes, want %d", s, n, nodes)
	}
}

// P11.1: ErrMany at the node whose type has more than MaxType nodes, and at none where it has just as many.
func TestGreat(t *testing.T) {
	const most = api.MaxType
	isFine(t, great(most), most)
	isFault(t, greatMarked(most+1), api.ErrMany)
	isFine(t, "[|"+great(most-1)+"|]", most)
	isFault(t, "@[|"+great(most)+"|]", api.ErrMany)
	isFine(t, "ref "+great(most-1), most)
	isFault(t, "@ref "+great(most), api.ErrMany)
	isFine(t, "fun x -> "+great(most-2), most)
	isFault(t, "@fun x -> "+great(most-1), api.ErrMany)
	isFine(t, "fun x y z -> "+great(most-6), most)
	isFault(t, "@fun x y z -> "+great(most-5), api.ErrMany)
	isFine(t, "("+great(most-2)+", 1)", most)
	isFault(t, "("+great(most-1)+"@, 1)", api.ErrMany)
	isFine(t, "let x = "+great(most-2)+" in (x, 1)", most)
	isFault(t, "let x = "+great(most-1)+" in (x@, 1)", api.ErrMany)
	isFine(t, "let x = "+great(most)+" in x; 1", 1)
	isFault(t, "let x = "+greatMarked(most+1)+" in 1", api.ErrMany)
	isFault(t, greatMarked(most+1)+"; 1", api.ErrMany)
	isFault(t, "match "+greatMarked(most+1)+" with _ -> 1", api.ErrMany)
	isFine(t, "match "+great(most)+" with x -> x", most)
	isFine(t, "if true then "+great(most)+" else "+great(most), most)
	isFine(t, "try "+great(most)+" with _ -> "+great(most), most)
}

// P11.1: ErrMany at the place where two types are to be made one, if one of them has more than MaxType nodes.
func TestGreatMadeOne(t *testing.T) {
	const most = api.MaxType
	isFine(t, "["+great(most-1)+"]", most)
	isFault(t, "@["+great(most)+"]", api.ErrMany)
	isFine(t, great(most-1)+" :: []", most)
	isFault(t, great(most)+" :: @[]", api.ErrMany)
	isFine(t, "(fun x -> 1) "+great(most-2), 1)
	isFault(t, "(fun x -> 1) "+greatMarked(most-1), api.ErrMany)
	isFine(t, "(fun x y -> 1) 2 "+great(most-2), 1)
	isFault(t, "(fun x y -> 1) 2 "+greatMarked(most-1), api.ErrMany)
	isFine(t, "fun f -> f "+great(most-4)+"; 1", most)
	isFault(t, "let k = fun a b -> (a, a, b) in k "+great(300)+" @1", api.ErrMany)
	isFault(t, "let k = fun a b -> (a, a, b) in @k "+great(300), api.ErrMany)
	isFine(t, "let k = fun a b -> (a, a, b) in k "+great(200)+" 1", 402)
	isFault(t, "let d = fun x -> (x, x) in let e = fun x -> d (d x) in let f = fun x -> e (e x) in f (@f (f 1))", api.ErrMany)
	isFine(t, "let d = fun x -> (x, x) in let e = fun x -> d (d x) in let f = fun x -> e (e x) in f (f 1)", 511)
}

// P11.1: so it is with patterns.
func TestGreatPatterns(t *testing.T) {
	const most = api.MaxType
	marked := func(nodes int) string { return strings.Replace(greatPattern(nodes), ",", "@,", 1) }
	isFine(t, "match raise N with "+greatPattern(most)+" -> 1", 1)
	isFault(t, "match raise N with "+marked(most+1)+" -> 1", api.ErrMany)
	isFine(t, "match raise N with ("+greatPattern(most-2)+", _) -> 1", 1)
	isFault(t, "match raise N with ("+greatPattern(most-1)+"@, _) -> 1", api.ErrMany)
	isFine(t, "match raise N with ["+greatPattern(most-1)+"] -> 1", 1)
	isFault(t, "match raise N with @["+greatPattern(most)+"] -> 1", api.ErrMany)
	isFine(t, "match raise N with "+greatPattern(most-1)+" :: _ -> 1", 1)
	isFault(t, "match raise N with "+greatPattern(most)+" :: @_ -> 1", api.ErrMany)
	isFine(t, "match raise N with "+greatPattern(most)+" as x -> x", most)
	isFault(t, "try 1 with "+marked(most+1)+" -> 1", api.ErrMany)
	isFine(t, "function "+greatPattern(most-2)+" -> 1", most)
	isFault(t, "@function "+greatPattern(most-1)+" -> 1", api.ErrMany)
	isFault(t, "@fun "+greatPattern(most-1)+" -> 1", api.ErrMany)
}

// P11.1: types that grow together where each of them alone isn't too great.
func TestGreatTogether(t *testing.T) {
	a, b := "(a, "+great(300)+")", "("+great(300)+", b)"
	isFault(t, "fun a b -> @if true then "+a+" else "+b, api.ErrMany)
	isFault(t, "fun a b -> @match 1 with 1 -> "+a+" | _ -> "+b, api.ErrMany)
	isFault(t, "fun a b -> @try "+a+" with _ -> "+b, api.ErrMany)
	isFault(t, "fun a b -> @[|"+a+"; "+b+"|]", api.ErrMany)
	isFault(t, "fun a b -> "+a+" @:: ["+b+"]", api.ErrMany)
	isFault(t, "fun a b -> match 1 with 1 -> "+a+" | 2 -> "+b+" | _ -> @raise N", api.ErrMany)
	isFault(t, "match raise N with (_, "+greatPattern(300)+") @| ("+greatPattern(300)+", _) -> 1", api.ErrMany)
	isFine(t, "fun a b -> if true then (a, "+great(100)+") else ("+great(100)+", b)", 403)
}

// P11.1: a variable's type that has grown is too great where the variable stands, and nowhere else.
func TestGreatVariables(t *testing.T) {
	isFault(t, "fun x y -> x = (y, y); y = "+great(300)+"; @x", api.ErrMany)
	isFault(t, "@fun x y -> x = (y, y); y = "+great(300)+"; 1", api.ErrMany)
	isFine(t, "fun y -> let p = fun z -> (y, y) in y = "+great(300)+"; 1", 302)
	isFault(t, "fun y -> let p = fun z -> (y, y) in y = "+great(300)+"; @p", api.ErrMany)
	isFault(t, "fun y -> let p = (y, y) in y = "+great(300)+"; @p", api.ErrMany)
	isFault(t, "fun y -> match (y, y) with p -> y = "+great(300)+"; @p", api.ErrMany)
	isFine(t, "let rec f x = (x, x) and g y = f y; y = "+great(300)+"; 1 in 1", 1)
	isFault(t, "let rec f x = (x, x) and g y = f y; y = "+great(300)+"; 1 in @f", api.ErrMany)
	isFault(t, "let rec f x = (x, x) and g y = f y; y = "+great(300)+"; @f in f", api.ErrMany)
	isFault(t, "let rec f @x = "+great(511)+" in f", api.ErrMany)
}

// P11.1: what is declared may be too great as well: the type of a label, or of what a constructor is of.
func TestGreatDeclared(t *testing.T) {
	for nodes, want := range map[int]api.Errno{api.MaxType: api.OK, api.MaxType + 1: api.ErrMany} {
		of := "int" + strings.Repeat("*int", nodes-2)
		for _, marked := range []string{
			"fun q -> q@.big; 1", "fun q x -> q.big <- @x; 1", "let f = fun x -> {big = @x}; 1 in 1",
			"match raise Not_found with {big = @x} -> 1",
		} {
			isGreat(t, "type g = {mutable big : "+of+"} let _ = ", marked, want)
		}
		for _, marked := range []string{"match raise Not_found with x -> G @x; 1", "match raise Not_found with G @x -> 1"} {
			isGreat(t, "type g = G of "+of+" let _ = ", marked, want)
		}
		for _, marked := range []string{"match raise Not_found with x -> G @x; 1", "try 1 with G @x -> 1"} {
			isGreat(t, "exception G of "+of+" let _ = ", marked, want)
		}
	}
}

// isGreat holds that behind what is declared an expression has this error at its mark, or, if it is none, a type, or one that is too great only further on.
func isGreat(t *testing.T, ahead, marked string, want api.Errno) {
	t.Helper()
	place := len(ahead) + strings.Index(marked, "@")
	d, c := resolved(t, ahead+strings.Replace(marked, "@", "", 1))
	_, e, at := infer.Infer(d, c.L[0])
	if want != api.OK && (e != want || at != place) || want == api.OK && at == place {
		t.Errorf("%s: %d at %d, want %d at %d", marked, e, at, want, place)
	}
}

// growing writes functions' parameters v0, v1 and so on, and what makes each a pair of the next one.
func growing(many int) (string, string) {
	var params, body strings.Builder
	params.WriteString("v0")
	for i := range many {
		this, next := "v"+strconv.Itoa(i), "v"+strconv.Itoa(i+1)
		params.WriteString(" " + next)
		body.WriteString(this + "=(" + next + "," + next + ");")
	}
	return params.String(), body.String()
}

// R1: types that would be of no measure, if they were written out, end soon.
func TestGreatSoon(t *testing.T) {
	params, body := growing(60)
	began := time.Now()
	isFault(t, "@fun "+params+" -> "+body+" 1", api.ErrMany)
	isFault(t, "fun "+params+" -> "+body+" @v0", api.ErrMany)
	isFault(t, "fun "+params+" -> let p = fun x -> (x, v0) in "+body+" @p", api.ErrMany)
	isFault(t, "fun "+params+" -> let p = (v0, v1, []) in "+body+" @p", api.ErrMany)
	isFault(t, "@fun "+params+" -> "+body+" let p = fun x -> x in (p 1, p true)", api.ErrMany)
	isType(t, "let rec f "+params+" = 1 in 2", "int")
	if took := time.Since(began); took > 20*time.Second {
		t.Errorf("it took %v", took)
	}
}
