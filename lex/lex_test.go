package lex_test

import (
	"slices"
	"strconv"
	"strings"
	"testing"

	"grapnel/api"
	"grapnel/lex"
)

const (
	words = "and as begin do done downto else end exception false for fun function if in let match mod mutable not of raise rec then to true try type when while with"
	signs = "( ) [ ] [| |] { } ; ;; , : :: := <- -> | || && = <> < > <= >= + - * / ^ ! . .( _"
)

func sign(at int, s string) api.Token   { return api.Token{Kind: api.TokSign, At: at, S: s} }
func name(at int, s string) api.Token   { return api.Token{Kind: api.TokName, At: at, S: s} }
func con(at int, s string) api.Token    { return api.Token{Kind: api.TokCon, At: at, S: s} }
func text(at int, s string) api.Token   { return api.Token{Kind: api.TokText, At: at, S: s} }
func number(at int, n int64) api.Token  { return api.Token{Kind: api.TokInt, At: at, N: n} }
func end(at int) api.Token              { return api.Token{Kind: api.TokEnd, At: at} }
func list(all ...api.Token) []api.Token { return all }

func wantTokens(t *testing.T, s string, want ...api.Token) {
	t.Helper()
	got, e, at := lex.Lex(s)
	if e != api.OK || at != 0 || !slices.Equal(got, want) {
		t.Errorf("Lex(%.60q) = %v, %d, %d, want %v", s, got, e, at, want)
	}
}

// wantOne asks for a source that is one token from its first byte to its last one.
func wantOne(t *testing.T, s string, want api.Token) {
	t.Helper()
	wantTokens(t, s, want, end(len(s)))
}

func wantFault(t *testing.T, s string, fault api.Errno, place int) {
	t.Helper()
	got, e, at := lex.Lex(s)
	if len(got) != 0 || e != fault || at != place {
		t.Errorf("Lex(%.60q) = %v, %d, %d, want none, %d, %d", s, got, e, at, fault, place)
	}
}

func TestTheChaptersExamples(t *testing.T) {
	wantTokens(t, "let x' = 1(* a (* b *) *)", sign(0, "let"), name(4, "x'"), sign(7, "="), number(9, 1), end(25))
	wantTokens(t, `a.(0)<-"\x41\n"`, name(0, "a"), sign(1, ".("), number(3, 0), sign(4, ")"), sign(5, "<-"), text(7, "A\n"), end(15))
	wantFault(t, "1a", api.ErrToken, 0)
	wantFault(t, "(* (* *)", api.ErrToken, 0)
	wantFault(t, `"\q"`, api.ErrToken, 0)
	wantFault(t, "4611686018427387904", api.ErrRange, 0)
}

// P7.1

func TestNothingButTheEnd(t *testing.T) {
	for _, s := range []string{"", " ", "\t", "\n", "\r", " \t\n\r", "(**)", " (* *) ", "(**)(**)", "\n(* (**) *)\r"} {
		wantTokens(t, s, end(len(s)))
	}
}

func TestNames(t *testing.T) {
	for _, s := range []string{"a", "z", "x'", "x'y''", "aZ_09'", "_a", "__", "_'", "_0", "_A", "_1a", "lets", "let'", "let_", "_let", "let0", "letRec", "ands", "an", "mo", "modulo", "true'"} {
		wantOne(t, s, name(0, s))
	}
	for _, s := range []string{"A", "Z", "Aa", "A_", "A'", "A0", "Let", "LET", "True", "ZZ9'_z"} {
		wantOne(t, s, con(0, s))
	}
	wantOne(t, "_", sign(0, "_"))
	wantTokens(t, "_ _", sign(0, "_"), sign(2, "_"), end(3))
	wantTokens(t, "(_,_)", sign(0, "("), sign(1, "_"), sign(2, ","), sign(3, "_"), sign(4, ")"), end(5))
}

// What may begin a name and what may go on in it, byte by byte.
func TestEachByteBehindAName(t *testing.T) {
	of := "abcdefghijklmnopqrstuvwxyzABCDEFGHIJKLMNOPQRSTUVWXYZ0123456789_'"
	for c := range 256 {
		s := "q" + string([]byte{byte(c)})
		got, e, _ := lex.Lex(s)
		one := e == api.OK && slices.Equal(got, list(name(0, s), end(2)))
		if one != (strings.IndexByte(of, byte(c)) >= 0) {
			t.Errorf("Lex(%q) = %v, %d", s, got, e)
		}
	}
}

func TestEachByteAlone(t *testing.T) {
	for c := range 256 {
		s := string([]byte{byte(c)})
		switch b := byte(c); {
		case strings.Contains(" \t\n\r", s):
			wantTokens(t, s, end(1))
		case b >= 'a' && b <= 'z':
			wantOne(t, s, name(0, s))
		case b >= 'A' && b <= 'Z':
			wantOne(t, s, con(0, s))
		case b >= '0' && b <= '9':
			wantOne(t, s, number(0, int64(b-'0')))
		case slices.Contains(strings.Fields(signs), s):
			wantOne(t, s, sign(0, s))
		default:
			wantFault(t, s, api.ErrToken, 0)
			wantFault(t, "a "+s+" b", api.ErrToken, 2)
		}
	}
}

func TestTheLanguagesWordsAreSigns(t *testing.T) {
	for _, s := range strings.Fields(words) {
		wantOne(t, s, sign(0, s))
		wantTokens(t, " "+s+"("+s+" ", sign(1, s), sign(1+len(s), "("), sign(2+len(s), s), end(3+2*len(s)))
		wantOne(t, s+"'", name(0, s+"'"))
		wantOne(t, s+"0", name(0, s+"0"))
		wantOne(t, "_"+s, name(0, "_"+s))
		wantOne(t, strings.ToUpper(s[:1])+s[1:], con(0, strings.ToUpper(s[:1])+s[1:]))
	}
}

func TestTheLanguagesSigns(t *testing.T) {
	for _, s := range strings.Fields(signs) {
		wantOne(t, s, sign(0, s))
		wantTokens(t, "a "+s+" 1", name(0, "a"), sign(2, s), number(3+len(s), 1), end(4+len(s)))
	}
}

// Of each two signs without a blank between them the longest one is read, at each place.
func TestTheLongestSign(t *testing.T) {
	all := strings.Fields(signs)
	for _, first := range all {
		for _, second := range all {
			s := first + second
			if first == "(" && second[0] == '*' {
				wantFault(t, s, api.ErrToken, 0)
				continue
			}
			if first == "_" && second == "_" {
				wantOne(t, s, name(0, s))
				continue
			}
			wantTokens(t, s, append(bySigns(t, s), end(len(s)))...)
		}
	}
}

// bySigns takes the longest sign again and again.
func bySigns(t *testing.T, s string) []api.Token {
	t.Helper()
	var tokens []api.Token
	for at := 0; at < len(s); {
		best := ""
		for _, x := range strings.Fields(signs) {
			if strings.HasPrefix(s[at:], x) && len(x) > len(best) {
				best = x
			}
		}
		if best == "" {
			t.Fatalf("%q: no sign at %d", s, at)
		}
		tokens = append(tokens, sign(at, best))
		at += len(best)
	}
	return tokens
}

func TestSignsInRows(t *testing.T) {
	wantTokens(t, "[||]", sign(0, "[|"), sign(2, "|]"), end(4))
	wantTokens(t, "[|]", sign(0, "[|"), sign(2, "]"), end(3))
	wantTokens(t, "[|||]", sign(0, "[|"), sign(2, "||"), sign(4, "]"), end(5))
	wantTokens(t, "|||", sign(0, "||"), sign(2, "|"), end(3))
	wantTokens(t, ";;;", sign(0, ";;"), sign(2, ";"), end(3))
	wantTokens(t, "::=", sign(0, "::"), sign(2, "="), end(3))
	wantTokens(t, ":::=", sign(0, "::"), sign(2, ":="), end(4))
	wantTokens(t, "<->", sign(0, "<-"), sign(2, ">"), end(3))
	wantTokens(t, "<--", sign(0, "<-"), sign(2, "-"), end(3))
	wantTokens(t, "<>=", sign(0, "<>"), sign(2, "="), end(3))
	wantTokens(t, "<=>", sign(0, "<="), sign(2, ">"), end(3))
	wantTokens(t, "-->", sign(0, "-"), sign(1, "->"), end(3))
	wantTokens(t, "->=", sign(0, "->"), sign(2, "="), end(3))
	wantTokens(t, "..(", sign(0, "."), sign(1, ".("), end(3))
	wantTokens(t, ". (", sign(0, "."), sign(2, "("), end(3))
	wantTokens(t, ".((", sign(0, ".("), sign(2, "("), end(3))
	wantTokens(t, "!!a", sign(0, "!"), sign(1, "!"), name(2, "a"), end(3))
	wantTokens(t, "-5", sign(0, "-"), number(1, 5), end(2))
	wantTokens(t, "&&&&", sign(0, "&&"), sign(2, "&&"), end(4))
	wantFault(t, "&", api.ErrToken, 0)
	wantFault(t, "& &", api.ErrToken, 0)
	wantFault(t, "&&&", api.ErrToken, 2)
}

func TestSignsAndOthersWithoutBlanks(t *testing.T) {
	wantTokens(t, "a.b.(c).D", name(0, "a"), sign(1, "."), name(2, "b"), sign(3, ".("), name(5, "c"), sign(6, ")"), sign(7, "."), con(8, "D"), end(9))
	wantTokens(t, "f\"a\"\"b\"1", name(0, "f"), text(1, "a"), text(4, "b"), number(7, 1), end(8))
	wantTokens(t, "1.2", number(0, 1), sign(1, "."), number(2, 2), end(3))
	wantTokens(t, "x:=!x+1", name(0, "x"), sign(1, ":="), sign(3, "!"), name(4, "x"), sign(5, "+"), number(6, 1), end(7))
}

func TestPlaces(t *testing.T) {
	wantTokens(t, " \t\r\nlet\n\n  rec(* \n *)f\t= ", sign(4, "let"), sign(11, "rec"), name(21, "f"), sign(23, "="), end(25))
	wantTokens(t, `"é" b`, text(0, "é"), name(5, "b"), end(6))
}

// Numbers.

func TestNumbers(t *testing.T) {
	for _, n := range []int64{0, 1, 7, 9, 10, 100, 1234567890, 999999999999999999, 1<<61 - 1, 1 << 61, 1<<62 - 2, 1<<62 - 1} {
		s := strconv.FormatInt(n, 10)
		wantOne(t, s, number(0, n))
		wantTokens(t, "("+s+")", sign(0, "("), number(1, n), sign(1+len(s), ")"), end(2+len(s)))
	}
}

func TestNumbersThatAreTooGreat(t *testing.T) {
	for _, s := range []string{
		"4611686018427387904", "4611686018427387905", "5000000000000000000", "9223372036854775807", "9223372036854775808", "9999999999999999999",
		"18446744073709551615", "18446744073709551616", "18446744073709551617", "36893488147419103237", strings.Repeat("9", 200), strings.Repeat("1", api.MaxSource),
	} {
		wantFault(t, s, api.ErrRange, 0)
		if len(s) < api.MaxSource-10 {
			wantFault(t, "x = "+s+" # ", api.ErrRange, 4)
			wantFault(t, "-"+s, api.ErrRange, 1) // the least number has no digits of its own: the - is a sign
		}
	}
}

func TestWhatIsNoNumber(t *testing.T) {
	long := strings.Repeat("9", 30)
	for _, s := range []string{"1a", "0x1", "1_000", "1e5", "1'", "0'", "0_", "00", "01", "007", "0a", "9Z", "1__", "12let", "1let", long + "a", "0" + long, long + "'", "0" + strings.Repeat("0", 30)} {
		wantFault(t, s, api.ErrToken, 0)
		wantFault(t, "let x= "+s+" 4611686018427387904", api.ErrToken, 7)
	}
	wantTokens(t, "0 0", number(0, 0), number(2, 0), end(3))
	wantTokens(t, "1\"a\"", number(0, 1), text(1, "a"), end(4))
}

// Texts.

func TestTextsOfEachByte(t *testing.T) {
	for c := range 256 {
		b := string([]byte{byte(c)})
		if b != `"` && b != `\` {
			wantOne(t, `"`+b+`"`, text(0, b))
			wantOne(t, `"a`+b+b+`b"`, text(0, "a"+b+b+"b"))
		}
		form := string([]byte{'\\', 'x', "0123456789abcdef"[c/16], "0123456789abcdef"[c%16]})
		wantOne(t, `"`+form+`"`, text(0, b))
		wantOne(t, `"1`+form+`1"`, text(0, "1"+b+"1"))
	}
}

func TestEachByteBehindABackslash(t *testing.T) {
	read := map[byte]string{'"': `"`, '\\': `\`, 'n': "\n", 't': "\t"}
	for c := range 256 {
		s := `"a\` + string([]byte{byte(c)}) + `b"`
		if b, is := read[byte(c)]; is {
			wantOne(t, s, text(0, "a"+b+"b"))
			continue
		}
		wantFault(t, s, api.ErrToken, 0) // that of x, too: b is one hex digit, and no other follows
		wantFault(t, " "+s, api.ErrToken, 1)
	}
}

func TestEachByteBehindAnX(t *testing.T) {
	for c := range 256 {
		b := byte(c)
		if b >= '0' && b <= '9' || b >= 'a' && b <= 'f' {
			continue
		}
		for _, form := range []string{`\x` + string([]byte{b}) + "1", `\x1` + string([]byte{b}), `\x` + string([]byte{b, b})} {
			wantFault(t, `=="`+form+`"`, api.ErrToken, 2)
			wantFault(t, `=="`+form+`1"`, api.ErrToken, 2)
		}
	}
}

func TestTexts(t *testing.T) {
	wantOne(t, `""`, text(0, ""))
	wantOne(t, `"let (* x"`, text(0, "let (* x"))
	wantOne(t, `"*)"`, text(0, "*)"))
	wantOne(t, "\"\n\r\n\"", text(0, "\n\r\n"))
	wantOne(t, `"\\"`, text(0, `\`))
	wantOne(t, `"\\\""`, text(0, `\"`))
	wantOne(t, `"\\n\\x41"`, text(0, `\n\x41`))
	wantOne(t, `"\x411"`, text(0, "A1"))
	wantOne(t, `"\x5cn\x22"`, text(0, `\n"`))
	wantOne(t, `"'"`, text(0, "'"))
	wantTokens(t, `"a" "b"`, text(0, "a"), text(4, "b"), end(7))
	wantTokens(t, `"\\""\""`, text(0, `\`), text(4, `"`), end(8))
}

func TestTextsThatDontEnd(t *testing.T) {
	for _, s := range []string{`"`, `"a`, `"\`, `"a\"`, `"\\\"`, `"\n`, `"\x`, `"\x4`, `"\x41`, `"\x"`, `"\x4"`, `"\x"41"`, "\"\n", "\"a (* *)", `"\x4\x41"`, "\"\\\n\""} {
		wantFault(t, s, api.ErrToken, 0)
		wantFault(t, "a \"b\" "+s, api.ErrToken, 6)
		wantFault(t, `""`+s, api.ErrToken, 2)
	}
}

// Comments.

func TestComments(t *testing.T) {
	for _, c := range []string{
		"(**)", "(***)", "(****)", "(* a *)", "(*)*)", "(*(**)*)", "(* (* (* *) *) (**) *)", "(*\"*)", "(* \"a *)", "(* ' # \\ \x00\xff *)", "(*\n*)",
		"(*\"(*\"*)*)", "(* ( * ) *)", "(* (*) *) *)", "(*((**))*)", "(*(*)*)*)", "(*1a 01 4611686018427387904*)", "(* **)", "(**(**)**)",
	} {
		wantTokens(t, c, end(len(c)))
		wantTokens(t, "a"+c+"b", name(0, "a"), name(1+len(c), "b"), end(2+len(c)))
		wantTokens(t, c+c+"1"+c, number(2*len(c), 1), end(3*len(c)+1))
		wantTokens(t, "("+c+"*", sign(0, "("), sign(1+len(c), "*"), end(2+len(c)))
	}
}

func TestCommentsThatDontEnd(t *testing.T) {
	for _, c := range []string{"(*", "(*)", "(* ", "(* *", "(* a", "(* (* *)", "(*(**)", "(*(*)*)", "(* (* (* *) *)", "(* * )", "(* \"(*\" *)", "(* \"(*\" *) *"} {
		wantFault(t, c, api.ErrToken, 0)
		wantFault(t, "a (**)"+c, api.ErrToken, 6)
		wantFault(t, "(* ( *)"+c, api.ErrToken, 7)
	}
	wantFault(t, "(* \"*)\" (*", api.ErrToken, 6) // the comment ends, the text behind it doesn't
}

// A closing without its opening is two signs, and .( is read ahead of a comment's opening.
func TestWhatIsNoComment(t *testing.T) {
	wantTokens(t, "*)", sign(0, "*"), sign(1, ")"), end(2))
	wantTokens(t, "(**)*)", sign(4, "*"), sign(5, ")"), end(6))
	wantTokens(t, "( *)", sign(0, "("), sign(2, "*"), sign(3, ")"), end(4))
	wantTokens(t, "((**)", sign(0, "("), end(5))
	wantTokens(t, "a.(*b*)", name(0, "a"), sign(1, ".("), sign(3, "*"), name(4, "b"), sign(5, "*"), sign(6, ")"), end(7))
	wantTokens(t, "a.((*b*)", name(0, "a"), sign(1, ".("), end(8))
	wantTokens(t, "[|(**)|]", sign(0, "[|"), sign(6, "|]"), end(8))
	wantOne(t, `"(*"`, text(0, "(*"))
}

// Errors.

func TestTheFirstErrorIsTold(t *testing.T) {
	great := "4611686018427387904"
	wantFault(t, "# "+great, api.ErrToken, 0)
	wantFault(t, great+" #", api.ErrRange, 0)
	wantFault(t, great+" \"", api.ErrRange, 0)
	wantFault(t, "01 "+great, api.ErrToken, 0)
	wantFault(t, "a "+great+" 01 (*", api.ErrRange, 2)
	wantFault(t, "(* "+great, api.ErrToken, 0)
	wantFault(t, "(* # *) "+great, api.ErrRange, 8)
	wantFault(t, "\"# "+great, api.ErrToken, 0)
	wantFault(t, "\"\\q\" "+great, api.ErrToken, 0)
	wantFault(t, "a = # 01", api.ErrToken, 4)
	wantFault(t, "a '", api.ErrToken, 2)
	wantFault(t, "é", api.ErrToken, 0)
	wantFault(t, "aé", api.ErrToken, 1)
	wantFault(t, "a\x00", api.ErrToken, 1)
	wantFault(t, "a\v", api.ErrToken, 1)
	wantFault(t, "a\f", api.ErrToken, 1)
}

func TestSourcesOfTheMostBytes(t *testing.T) {
	most := api.MaxSource
	wantTokens(t, strings.Repeat(" ", most), end(most))
	wantOne(t, strings.Repeat("a", most), name(0, strings.Repeat("a", most)))
	wantOne(t, strings.Repeat("A", most), con(0, strings.Repeat("A", most)))
	wantOne(t, `"`+strings.Repeat("x", most-2)+`"`, text(0, strings.Repeat("x", most-2)))
	wantTokens(t, strings.Repeat("(*", most/4)+strings.Repeat("*)", most/4), end(most))
	wantFault(t, strings.Repeat("(*", most/2), api.ErrToken, 0)
	wantFault(t, strings.Repeat("(*", most/4)+strings.Repeat("*)", most/4-1)+"))", api.ErrToken, 0)
	wantFault(t, strings.Repeat(" ", most-1)+"#", api.ErrToken, most-1)
	wantFault(t, strings.Repeat(" ", most-1)+`"`, api.ErrToken, most-1)
	wantFault(t, strings.Repeat(" ", most-2)+"(*", api.ErrToken, most-2)
	wantFault(t, strings.Repeat(" ", most-2)+"01", api.ErrToken, most-2)
	wantFault(t, strings.Repeat("0", most), api.ErrToken, 0)
	var all []api.Token
	for i := range most {
		all = append(all, sign(i, "("))
	}
	wantTokens(t, strings.Repeat("(", most), append(all, end(most))...)
}

// With one byte more nothing else is looked at.
func TestSourcesOfMoreBytes(t *testing.T) {
	more := api.MaxSource + 1
	for _, n := range []int{more, more + 1, 2 * more, 1 << 20} {
		for _, s := range []string{" ", "a", "#", "9", "0", "\"", "(", "\xff"} {
			wantFault(t, strings.Repeat(s, n), api.ErrBytes, 0)
		}
	}
	wantFault(t, "  #"+strings.Repeat(" ", more-3), api.ErrBytes, 0)
	wantFault(t, strings.Repeat("é", api.MaxSource/2)+" ", api.ErrBytes, 0) // bytes are counted, not letters
	wantFault(t, strings.Repeat("é", api.MaxSource/2), api.ErrToken, 0)
}

// Each call answers for itself: what one was told may be changed.
func TestAnswersShareNothing(t *testing.T) {
	s := "let a = \"b\" 1"
	first, _, _ := lex.Lex(s)
	for i := range first {
		first[i] = api.Token{Kind: 9, At: -1, N: 7, S: "gone"}
	}
	wantTokens(t, s, sign(0, "let"), name(4, "a"), sign(6, "="), text(8, "b"), number(12, 1), end(13))
}

// P7.2

func TestIsWord(t *testing.T) {
	all := strings.Fields(words)
	if len(all) != 31 {
		t.Fatal(len(all))
	}
	for _, s := range all {
		if !lex.IsWord(s) {
			t.Errorf("IsWord(%q)", s)
		}
		for _, x := range []string{s[:len(s)-1], s[1:], s + "x", s + " ", " " + s, s + "'", strings.ToUpper(s), strings.ToUpper(s[:1]) + s[1:], s + "\x00", s + s} {
			if lex.IsWord(x) != slices.Contains(all, x) {
				t.Errorf("IsWord(%q)", x)
			}
		}
	}
	for _, s := range append(strings.Fields(signs), "", "x", "A", "ref", "list", "lazy", "open", "module", "int", "val", "or", "land", "print_int", "assert", "let rec", words, "1", "\"") {
		if lex.IsWord(s) {
			t.Errorf("IsWord(%q)", s)
		}
	}
}

func wantText(t *testing.T, x api.Token, want string) {
	t.Helper()
	if got := lex.Text(x); got != want {
		t.Errorf("Text(%v) = %q, want %q", x, got, want)
	}
}

// What a kind has no use for isn't told.
func TestTextOfEachKind(t *testing.T) {
	full := api.Token{At: 5, N: -5, S: "a\n"}
	for kind, want := range map[int]string{
		api.TokEnd: "", api.TokInt: "-5", api.TokText: `"a\n"`, api.TokName: "a\n", api.TokCon: "a\n", api.TokSign: "a\n",
		-1: "a\n", 6: "a\n", 1 << 40: "a\n",
	} {
		full.Kind = kind
		wantText(t, full, want)
	}
	wantText(t, end(9), "")
	wantText(t, name(0, ""), "")
	wantText(t, name(0, "x'"), "x'")
	wantText(t, con(0, "A"), "A")
	wantText(t, sign(0, ".("), ".(")
	wantText(t, sign(0, "let"), "let")
}

// A Token's N may have 64 bits, though none of Lex's has.
func TestTextOfNumbers(t *testing.T) {
	for n, want := range map[int64]string{
		0: "0", 7: "7", -1: "-1", 10: "10", 1<<62 - 1: "4611686018427387903", 1 << 62: "4611686018427387904", -1 << 62: "-4611686018427387904",
		-1<<62 - 1: "-4611686018427387905", 1<<63 - 1: "9223372036854775807", -1 << 63: "-9223372036854775808",
	} {
		wantText(t, number(3, n), want)
	}
}

func TestTextOfTexts(t *testing.T) {
	for c := range 256 {
		b := string([]byte{byte(c)})
		want := b
		switch {
		case b == `"` || b == `\`:
			want = `\` + b
		case b == "\n":
			want = `\n`
		case b == "\t":
			want = `\t`
		case c < 32 || c > 126:
			h := strconv.FormatInt(int64(256+c), 16)
			want = `\x` + h[1:]
		}
		wantText(t, text(0, b), `"`+want+`"`)
		wantText(t, text(7, "x"+b+b+"1"), `"x`+want+want+`1"`)
	}
	wantText(t, text(0, ""), `""`)
	wantText(t, text(0, "\r\x00\x1f ~\x7f\x80\xff"), `"\x0d\x00\x1f ~\x7f\x80\xff"`)
	wantText(t, text(0, "é"), `"\xc3\xa9"`)
	wantText(t, text(0, `\n`), `"\\n"`)
	wantText(t, text(0, strings.Repeat("\xff", 1<<16)), `"`+strings.Repeat(`\xff`, 1<<16)+`"`)
}
