package simp_test

import (
	"strings"
	"testing"

	"grapnel/api"
	"grapnel/core"
	"grapnel/lam"
	"grapnel/lower"
	"grapnel/model"
	"grapnel/parse"
	"grapnel/simp"
)

// W2: what lower makes of a source's core keeps what the model tells, once it is made simpler.
func TestSources(t *testing.T) {
	for _, s := range []string{
		"let _ = print_string (read_line ())",
		"let rec f n = if n = 0 then 0 else n + f (n - 1) let _ = print_int (f 20)",
		"let rec loop n = if n = 0 then exit 3 else loop (n - 1) let _ = loop 50",
		"let rec keep l = keep (1 :: l) let _ = keep []",
		"let _ = (print_int 1; 2) + (print_int 3; 4)",
		"let id x = x let _ = print_int (id id id 4)",
		"let _ = match [1] with [] -> ()",
		"let _ = try print_int (1 / 0) with Division_by_zero -> print_string \"zero\"",
		"type r = {mutable a : int} let x = {a = 1} let _ = match x with {a = 1} when (x.a <- 2; false) -> () | {a = 2} -> print_string \"anew\" | _ -> ()",
		"let debug = false let level = 3 let say s = if debug then print_string s else () let _ = say \"a\"; if level * 2 = 6 then print_int level else say \"b\"",
		"let unused a b = a + b let also = unused let k = 7 let j = k let _ = print_int (j * k - (if true then 1 else unused 2 3))",
		"type t = A | B of int | C of t * t let rec sum t = match t with A -> 0 | B n -> n | C (a, b) -> sum a + sum b let _ = print_int (sum (C (B 3, C (A, B 4))))",
		"let _ = match (1, 2) with (1, 1) | (2, _) -> print_int 1 | (a, b) when a > b -> print_int 2 | (a, 2) -> print_int (a + 10) | _ -> ()",
		"let rec map f l = match l with [] -> [] | x :: r -> f x :: map f r let rec show l = match l with [] -> () | x :: r -> (print_int x; show r) let _ = show (map (fun x -> x * 2) [1; 2; 3])",
		"exception E of int let f x = if x > 2 then raise (E x) else x let _ = print_int (try f 1 + f 5 with E n -> n * 100 | Not_found -> 0)",
		"let a = [|1; 2; 3|] let _ = for i = 0 to array_length a - 1 do print_int a.(i); a.(i) <- a.(i) + 1 done; while a.(0) < 9 do a.(0) <- a.(0) * 2 done; print_int (a.(0))",
		"let read u = int_of_string (read_line u) let x = read () let y = x let _ = print_int (x + y + read ())",
	} {
		n, _, _ := parse.Parse(s)
		d, c, e, _ := core.Resolve(n)
		p, f := lower.Of(d, c)
		q, g := simp.Of(p)
		if e != api.OK || f != api.OK || g != api.OK {
			t.Fatalf("%s: %d, %d, %d", s, e, f, g)
		}
		lines := []string{"5", "6"}
		if w := differs(p, lines, all(300)...); w != "" {
			t.Errorf("%s: %s", s, w)
		}
		last := model.Run(d, c, lines, 20000)
		for _, fuel := range all(300) {
			m, l := model.Run(d, c, lines, fuel), lam.Run(q, lines, fuel)
			ended := m.Kind != model.OutOfFuel && l.Kind != lam.OutOfFuel
			if ended && l != lam.Ending(m) || !strings.HasPrefix(m.Out, l.Out) && !strings.HasPrefix(l.Out, m.Out) {
				t.Errorf("%s: with %d: %+v, %+v", s, fuel, m, l)
			}
		}
		if l := lam.Run(q, lines, 5000000); last.Kind != model.OutOfFuel && l != lam.Ending(last) {
			t.Errorf("%s: %+v, %+v", s, last, l)
		}
	}
}
