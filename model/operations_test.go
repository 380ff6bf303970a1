package model_test

import (
	"math/big"
	"strings"
	"testing"

	"grapnel/api"
	"grapnel/model"
)

const (
	greatest = "4611686018427387903"
	least    = "(- 4611686018427387903 - 1)"
)

// cut tells a whole number's lowest 63 bits, of which the highest one tells its sign, in digits.
func cut(n *big.Int) string {
	ring := new(big.Int).Lsh(big.NewInt(1), 63)
	n = new(big.Int).Mod(n, ring)
	if n.Bit(62) == 1 {
		n.Sub(n, ring)
	}
	return n.String()
}

// written tells a number as a source has it.
func written(n *big.Int) string {
	if n.String() == "-4611686018427387904" {
		return least
	}
	return "(" + strings.Replace(n.String(), "-", "- ", 1) + ")"
}

// P12.1: numbers wrap; quotients are cut towards 0, and by 0 there is none.
func TestNumbers(t *testing.T) {
	var all []*big.Int
	for _, s := range []string{"0", "1", "-1", "2", "-2", "7", "-7", "3037000500", "-3037000500", greatest, "-" + greatest, "-4611686018427387904", "4611686018427387902"} {
		n, _ := new(big.Int).SetString(s, 10)
		all = append(all, n)
	}
	for _, a := range all {
		number(t, "- "+written(a), cut(new(big.Int).Neg(a)))
		for _, b := range all {
			number(t, written(a)+" + "+written(b), cut(new(big.Int).Add(a, b)))
			number(t, written(a)+" - "+written(b), cut(new(big.Int).Sub(a, b)))
			number(t, written(a)+" * "+written(b), cut(new(big.Int).Mul(a, b)))
			if b.Sign() == 0 {
				raises(t, written(a)+" / "+written(b), "Division_by_zero", "")
				raises(t, written(a)+" mod "+written(b), "Division_by_zero", "")
				continue
			}
			number(t, written(a)+" / "+written(b), cut(new(big.Int).Quo(a, b)))
			number(t, written(a)+" mod "+written(b), cut(new(big.Int).Rem(a, b)))
		}
	}
	number(t, "try print_int 1; 5 / 0 with Division_by_zero -> 7", "17")
	number(t, "(-7) / 2 * 10 + (-7) mod 2", "-31")
}

// Those that no source has are done by word.Do, too.
func TestOtherNumbers(t *testing.T) {
	for _, one := range []struct {
		op         int64
		a, b, told int64
	}{
		{api.OpAnd, 12, 10, 8}, {api.OpOr, 12, 10, 14}, {api.OpXor, 12, 10, 6}, {api.OpShl, 3, 61, 1<<61 - 1<<62},
		{api.OpShl, 3, 63, 0}, {api.OpShr, -5, 1, -3}, {api.OpShr, -5, 99, -1}, {api.OpLess, 1, 2, 1}, {api.OpLess, 2, 2, 0}, {api.OpLess, -1, -2, 0},
	} {
		c := printed(op(one.op, whole(one.a), whole(one.b)))
		if got := model.Run(api.Decls{}, c, nil, enough); got != done(big.NewInt(one.told).String()) {
			t.Errorf("%v: got %+v", one, got)
		}
	}
}

func whole(n int64) api.Core { return api.Core{Kind: api.KInt, N: n} }

func op(n int64, parts ...api.Core) api.Core { return api.Core{Kind: api.KOp, N: n, L: parts} }

func printed(c api.Core) api.Core {
	return api.Core{Kind: api.KApp, L: []api.Core{{Kind: api.KBuiltin, N: api.BPrintInt}, c}}
}

func TestNot(t *testing.T) {
	number(t, "if not true then 1 else 2", "2")
	number(t, "if not false then 1 else 2", "1")
	number(t, "if not (not (1 = 1)) then 1 else 2", "1")
}

func TestRefs(t *testing.T) {
	number(t, "let r = ref 1 in r := !r + 1; r := !r * 5; !r", "10")
	number(t, "let r = ref (ref 1) in !r := 5; let s = !r in r := ref 7; !s * 10 + !(!r)", "57")
	number(t, "let r = ref [] in r := 1 :: !r; r := 2 :: !r; match !r with [x; y] -> x * 10 + y", "21")
	prints(t, "match ref 1 := 2 with () -> print_int 3", "3")
}

// P12.1: a text of more than MaxText bytes can't come to be.
func TestCat(t *testing.T) {
	prints(t, `print_string ("ab" ^ "" ^ "c\x00d")`, "abc\x00d")
	grow := `let rec g n s = if n = 0 then s else g (n - 1) (s ^ s) in let s = g 12 "x" in `
	number(t, grow+"string_length s", "4096")
	number(t, grow+`string_length (s ^ "") + string_length ("" ^ s)`, "8192")
	raises(t, grow+`print_int 1; s ^ "y"`, "Invalid_argument", "1")
	raises(t, grow+`print_int 1; "y" ^ s`, "Invalid_argument", "1")
	raises(t, grow+`s ^ s`, "Invalid_argument", "")
	number(t, `let rec g n s = if n = 0 then s else g (n - 1) (s ^ s) in string_length (g 11 "x" ^ g 10 "y" ^ g 10 "z")`, "4096")
	raises(t, `let rec g n s = if n = 0 then s else g (n - 1) (s ^ s) in g 13 "x"`, "Invalid_argument", "")
}

// P12.1: built-in functions.

func TestPrints(t *testing.T) {
	prints(t, "print_int 0; print_int (-5); print_int "+greatest+"; print_int "+least, "0-54611686018427387903-4611686018427387904")
	prints(t, `print_string "a"; print_string ""; print_string "\x00\xff"`, "a\x00\xff")
	prints(t, `match print_int 1, print_string "a" with (), () -> print_int 2`, "a12")
}

func TestReadLine(t *testing.T) {
	s := "let _ = print_string (read_line ()); print_string \".\"; print_string (read_line ()); print_string \"!\""
	isTyped(t, s)
	for _, one := range []struct {
		lines []string
		want  model.Ending
	}{
		{nil, uncaught("End_of_file", "")},
		{[]string{"a"}, model.Ending{Kind: model.Uncaught, Exn: "End_of_file", Out: "a.", Read: 1}},
		{[]string{"a", "b"}, model.Ending{Kind: model.Ended, Out: "a.b!", Read: 2}},
		{[]string{"", ""}, model.Ending{Kind: model.Ended, Out: ".!", Read: 2}},
		{[]string{"a\n\x00b", "\xff", "c"}, model.Ending{Kind: model.Ended, Out: "a\n\x00b.\xff!", Read: 2}},
	} {
		comes(t, s, one.want, one.lines...)
	}
	again := "let rec f u = print_string (read_line ()); f () let _ = try f () with End_of_file -> try f () with End_of_file -> print_string \".\""
	comes(t, again, model.Ending{Kind: model.Ended, Out: "ab.", Read: 3}, "a", "", "b")
}

// Of a line that is too long the first MaxText bytes are the text; the others are nobody's.
func TestLongLines(t *testing.T) {
	s := "let _ = let s = read_line () in print_int (string_length s); print_string s; print_string (read_line ())"
	for _, many := range []int{api.MaxText - 1, api.MaxText, api.MaxText + 1, 3 * api.MaxText} {
		long := strings.Repeat("abcdefg", many/7+1)[:many]
		kept := long[:min(many, api.MaxText)]
		digits := "4096"
		if many < api.MaxText {
			digits = "4095"
		}
		comes(t, s, model.Ending{Kind: model.Ended, Out: digits + kept + "z", Read: 2}, long, "z")
	}
	comes(t, `let _ = (read_line ()) ^ "a"`, model.Ending{Kind: model.Uncaught, Exn: "Invalid_argument", Read: 1}, strings.Repeat("a", 5000))
}

// The lowest 8 bits of the number, and nothing behind it is done.
func TestExit(t *testing.T) {
	for s, code := range map[string]int{
		"0": 0, "1": 1, "44": 44, "255": 255, "256": 0, "257": 1, "300": 44, "(-1)": 255, "(-256)": 0, "(-257)": 255, greatest: 255, least: 0, "65535": 255,
	} {
		comes(t, "let _ = print_int 5; exit "+s+"; print_int 6", model.Ending{Kind: model.Ended, Code: code, Out: "5"})
		comes(t, "let f x = try exit x with _ -> print_int 7 let _ = f "+s, model.Ending{Kind: model.Ended, Code: code})
	}
	comes(t, "let _ = print_string (read_line ()); (exit 3) + (print_int 2; 4)", model.Ending{Kind: model.Ended, Code: 3, Out: "a2", Read: 1}, "a", "b")
	comes(t, "let _ = while true do exit 9 done", model.Ending{Kind: model.Ended, Code: 9})
}

func TestNumbersAsTexts(t *testing.T) {
	prints(t, `print_string (string_of_int 0 ^ string_of_int (-12) ^ string_of_int `+greatest+` ^ string_of_int `+least+`)`, "0-12"+greatest+"-4611686018427387904")
	for _, s := range []string{"0", "7", "-7", "-12", "100", greatest, "-" + greatest, "-4611686018427387904"} {
		number(t, `int_of_string "`+s+`"`, s)
	}
	for _, s := range []string{"", "x", "-", "+1", "01", "-0", "00", "1 ", " 1", "1a", "1.", "--1", "4611686018427387904", "-4611686018427387905", "99999999999999999999999", "0x1"} {
		raises(t, `int_of_string "`+s+`"`, "Failure", "")
		prints(t, `try print_int (int_of_string "`+s+`") with Failure s -> print_string s`, "int_of_string")
	}
	number(t, `try int_of_string "x" with Failure "int_of_string" -> 1 | Failure _ -> 2`, "1")
	number(t, `hash (try raise (Failure "int_of_string") with e -> e) - (try int_of_string "x" with e -> hash e)`, "0")
}

func TestTexts(t *testing.T) {
	number(t, `string_length ""`, "0")
	number(t, `string_length "a\x00\n"`, "3")
	number(t, `string_get "a\x00\xff" 0 * 1000000 + string_get "a\x00\xff" 1 * 1000 + string_get "a\x00\xff" 2`, "97000255")
	for _, i := range []string{"(-1)", "3", greatest, least} {
		raises(t, `print_int 1; string_get "abc" `+i, "Invalid_argument", "1")
	}
	raises(t, `string_get "" 0`, "Invalid_argument", "")
}

func TestArrays(t *testing.T) {
	number(t, "array_length (array_make 3 true)", "3")
	number(t, "array_length (array_make 0 1)", "0")
	number(t, "array_length [||] * 10 + array_length [|1; 2|]", "2")
	number(t, "let a = array_make 4096 7 in a.(0) + a.(4095) + array_length a", "4110")
	number(t, "let a = array_make 3 0 in a.(1) <- 5; a.(0) * 100 + a.(1) * 10 + a.(2)", "50")
	for _, n := range []string{"(-1)", "4097", greatest, least} {
		raises(t, "print_int 1; array_make "+n+" 0", "Invalid_argument", "1")
	}
	raises(t, "(array_make 4096 7).(4096)", "Invalid_argument", "")
	number(t, "let a = array_make 2 0 in let b = array_make 2 0 in a.(0) <- 1; if a = b then 1 else 2", "2")
}
