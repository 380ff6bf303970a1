package lex_test

import (
	"math/big"
	"math/rand"
	"regexp"
	"slices"
	"strconv"
	"strings"
	"testing"

	"grapnel/api"
	"grapnel/lex"
)

// The forms of tokens as the chapter tells them, as patterns.
var (
	nameForm   = regexp.MustCompile(`^[a-zA-Z_][a-zA-Z0-9_']*`)
	digitsForm = regexp.MustCompile(`^[0-9][a-zA-Z0-9_']*`)
	numberForm = regexp.MustCompile(`^(0|[1-9][0-9]*)$`)
	textForm   = regexp.MustCompile(`^"([^"\\]|\\["\\nt]|\\x[0-9a-f][0-9a-f])*"`)
	escapeForm = regexp.MustCompile(`\\(["\\nt]|x..)`)
	blankForm  = regexp.MustCompile("^[ \t\n\r]+")
	signForm   = regexp.MustCompile(`^(\[\||\|\]|;;|::|:=|<-|->|\|\||&&|<>|<=|>=|\.\(|[()\[\]{};,:|=<>+*/^!.-])`)
)

// plain reads a source by the patterns, token by token.
func plain(s string) ([]api.Token, api.Errno, int) {
	if len(s) > api.MaxSource {
		return nil, api.ErrBytes, 0
	}
	var tokens []api.Token
	for at := 0; at < len(s); {
		rest := s[at:]
		if n := len(blankForm.FindString(rest)); n > 0 {
			at += n
			continue
		}
		if strings.HasPrefix(rest, "(*") {
			n := commentLength(rest)
			if n == 0 {
				return nil, api.ErrToken, at
			}
			at += n
			continue
		}
		x, n, e := plainToken(rest)
		if e != api.OK {
			return nil, e, at
		}
		x.At = at
		tokens = append(tokens, x)
		at += n
	}
	return append(tokens, end(len(s))), api.OK, 0
}

// commentLength tells how many bytes a comment at s's beginning has, by those within it; 0, if it doesn't end.
func commentLength(s string) int {
	for at := 2; at < len(s); {
		switch {
		case strings.HasPrefix(s[at:], "*)"):
			return at + 2
		case strings.HasPrefix(s[at:], "(*"):
			n := commentLength(s[at:])
			if n == 0 {
				return 0
			}
			at += n
		default:
			at++
		}
	}
	return 0
}

func plainToken(s string) (api.Token, int, api.Errno) {
	if x := nameForm.FindString(s); x != "" {
		return api.Token{Kind: plainKind(x), S: x}, len(x), api.OK
	}
	if x := digitsForm.FindString(s); x != "" {
		n, is := new(big.Int).SetString(x, 10)
		switch {
		case !is || !numberForm.MatchString(x):
			return api.Token{}, 0, api.ErrToken
		case n.BitLen() > 62:
			return api.Token{}, 0, api.ErrRange
		}
		return api.Token{Kind: api.TokInt, N: n.Int64()}, len(x), api.OK
	}
	if x := textForm.FindString(s); x != "" {
		inner := escapeForm.ReplaceAllStringFunc(x[1:len(x)-1], func(form string) string {
			switch form[1] {
			case 'n':
				return "\n"
			case 't':
				return "\t"
			case 'x':
				c, _ := strconv.ParseUint(form[2:], 16, 8)
				return string([]byte{byte(c)})
			}
			return form[1:]
		})
		return api.Token{Kind: api.TokText, S: inner}, len(x), api.OK
	}
	if x := signForm.FindString(s); x != "" {
		return api.Token{Kind: api.TokSign, S: x}, len(x), api.OK
	}
	return api.Token{}, 0, api.ErrToken
}

func plainKind(name string) int {
	switch {
	case name[0] >= 'A' && name[0] <= 'Z':
		return api.TokCon
	case name == "_" || slices.Contains(strings.Fields(words), name):
		return api.TokSign
	}
	return api.TokName
}

// wantPlain holds Lex against the patterns, and tells the error.
func wantPlain(t *testing.T, s string) api.Errno {
	t.Helper()
	tokens, fault, place := plain(s)
	if fault == api.OK {
		wantTokens(t, s, tokens...)
	} else {
		wantFault(t, s, fault, place)
	}
	if t.Failed() {
		t.FailNow()
	}
	return fault
}

// P7.1

func TestAllSourcesOfTwoBytes(t *testing.T) {
	for c := range 1 << 16 {
		wantPlain(t, string([]byte{byte(c >> 8), byte(c)}))
	}
}

// Of the bytes that something hangs on, all sources of up to five.
func TestAllSmallSources(t *testing.T) {
	of := "(*)\".\\x4a_ |<"
	var all func(s string, n int)
	all = func(s string, n int) {
		wantPlain(t, s)
		if n == 0 {
			return
		}
		for i := range len(of) {
			all(s+of[i:i+1], n-1)
		}
	}
	all("", 5)
}

func TestSourcesAtRandom(t *testing.T) {
	pieces := append(strings.Fields(signs+" "+words), "(*", "*)", "(**)", "\"", "\"", "\\", "\\n", "\\\"", "\\x4", "\\x41", "\\xff", "\"a\"", "\"\\\\\"", "0", "1", "42",
		"4611686018427387903", "4611686018427387904", "a", "b'", "_x", "A", "Cons", "let", "'", "#", "\x00", "\xff", "é", " ", " ", " ", "\n", "\t", "\r")
	came := map[api.Errno]int{}
	r := rand.New(rand.NewSource(7))
	for range 20000 {
		s := ""
		for range r.Intn(12) {
			s += pieces[r.Intn(len(pieces))]
			if r.Intn(3) == 0 {
				s += " "
			}
		}
		came[wantPlain(t, s)]++
	}
	for _, e := range []api.Errno{api.OK, api.ErrToken, api.ErrRange} {
		if came[e] < 200 {
			t.Errorf("error %d came %d times", e, came[e])
		}
	}
}

// P7.3

// made makes up a token, of any kind but the end.
func made(r *rand.Rand) api.Token {
	small, great := "abcxyz_", "ABCXYZ"
	switch r.Intn(6) {
	case 0:
		return sign(0, pick(r, strings.Fields(signs)))
	case 1:
		return sign(0, pick(r, strings.Fields(words)))
	case 2:
		return con(0, great[r.Intn(len(great)):][:1]+tail(r))
	case 3:
		return number(0, r.Int63()>>(1+r.Intn(62)))
	case 4:
		all := make([]byte, r.Intn(9))
		for i := range all {
			all[i] = byte(r.Intn(256))
		}
		return text(0, string(all))
	}
	s := small[r.Intn(len(small)):][:1] + tail(r)
	return api.Token{Kind: plainKind(s), S: s}
}

func pick(r *rand.Rand, all []string) string { return all[r.Intn(len(all))] }

func tail(r *rand.Rand) string {
	of := "aAzZ09_'"
	s := ""
	for range r.Intn(4) {
		i := r.Intn(len(of))
		s += of[i : i+1]
	}
	return s
}

func blanks(r *rand.Rand) string {
	return pick(r, []string{" ", "\n", "\t", "\r", "  ", "\r\n", " \t\n\r"})
}

// gap is blanks and comments, a blank first: a . with a comment's opening close behind it would be a .( and a *.
func gap(r *rand.Rand) string {
	s := blanks(r)
	for range r.Intn(3) {
		s += pick(r, []string{"(**)", "(* a (* b *) *)", "(*)*)", "(* \" *)", "(* # 01 *)", "(*(**)(**)*)", blanks(r)})
	}
	return s
}

// wantBut asks for these tokens, wherever they stand, in order, each where its text is.
func wantBut(t *testing.T, s string, tokens []api.Token) {
	t.Helper()
	got, e, at := lex.Lex(s)
	if e != api.OK || at != 0 || len(got) != len(tokens)+1 || got[len(got)-1] != end(len(s)) {
		t.Fatalf("Lex(%q) = %v, %d, %d, want %v", s, got, e, at, tokens)
	}
	behind := 0
	for i, x := range tokens {
		place := got[i].At
		if place < behind || !strings.HasPrefix(s[place:], lex.Text(x)) {
			t.Fatalf("Lex(%q): %v stands at %d", s, x, place)
		}
		behind = place + len(lex.Text(x))
		if x.At = place; got[i] != x {
			t.Fatalf("Lex(%q): %v, want %v", s, got[i], x)
		}
	}
}

func TestTextsOfTokensAreReadAsThese(t *testing.T) {
	for seed := range int64(5000) {
		r := rand.New(rand.NewSource(seed))
		var tokens []api.Token
		apart, far := "", gap(r)
		for range r.Intn(15) {
			x := made(r)
			tokens = append(tokens, x)
			apart += lex.Text(x) + blanks(r)
			far += lex.Text(x) + gap(r)
		}
		wantBut(t, apart, tokens)
		wantBut(t, far, tokens)
	}
}

// What was read, written with blanks between, is read again as the same, but for At.
func TestWhatWasReadIsReadAgain(t *testing.T) {
	for _, s := range []string{
		"let rec f n = if n = 0 then 0 else n + f (n - 1) let _ = print_int (f 20)",
		"type r = {mutable a : int} let x = {a = 1} let _ = match x with {a = 1} when (x.a <- 2; false) -> () | {a = 2} -> print_string \"anew\" | _ -> ()",
		"let _ = try print_int (1 / 0) with Division_by_zero -> print_string \"zero\"",
		"let a=[|1;2|]let b=a.(0)::[];;let()=a.(1)<-b.(*c*)d",
		"(*x*)exception E of int*string(*y*)",
		"",
	} {
		tokens, e, _ := lex.Lex(s)
		if e != api.OK {
			t.Fatalf("Lex(%q): error %d", s, e)
		}
		again := ""
		for _, x := range tokens {
			again += lex.Text(x) + "\n"
		}
		wantBut(t, again, tokens[:len(tokens)-1])
	}
}

// A comment parts tokens as a blank does, and ahead of all and behind all it changes only places.
func TestCommentsAreAsBlanks(t *testing.T) {
	r := rand.New(rand.NewSource(3))
	for range 2000 {
		x, y := made(r), made(r)
		if x == sign(0, ".") || y == sign(0, ".") {
			continue // with a comment close behind it, it would be a .(
		}
		for _, between := range []string{" ", "\n", "(**)", "(* (* *) \" *)", " (**) ", "(**)(**)"} {
			wantBut(t, lex.Text(x)+between+lex.Text(y), []api.Token{x, y})
			wantBut(t, between+lex.Text(x)+between+lex.Text(y)+between, []api.Token{x, y})
		}
	}
}
