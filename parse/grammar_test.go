package parse_test

import (
	"math/rand"
	"slices"
	"strings"
	"testing"

	"grapnel/api"
	"grapnel/lex"
	"grapnel/parse"
)

// The chapter's grammar, with what is said of it in words written out: what ends in a seq (open) takes the ; behind it, so that in front of one that is another's only the rest (full) stands;
// a CON that begins an app is the app's (atom0 has none); in front of <- stands an into.
const grammar = `
prog   = { item [";;"] } END
item   = "let" ["rec"] bind { "and" bind } | "type" NAME "=" def | "exception" CON ["of" ty]
def    = ["|"] con { "|" con } | "{" lab { ";" lab } [";"] "}"
con    = CON ["of" ty]
lab    = ["mutable"] NAME ":" ty
bind   = pat "=" seq | NAME patom { patom } "=" seq
seq    = expr | full ";" seq
expr   = full | open
full   = "if" expr "then" full | "if" expr "then" expr "else" full | "while" seq "do" seq "done" | "for" NAME "=" expr ( "to" | "downto" ) expr "do" seq "done" | tup [ ":=" full ] | into "<-" full
open   = "let" ["rec"] bind { "and" bind } "in" seq | "fun" patom { patom } "->" seq | "function" arms | "match" seq "with" arms | "try" seq "with" arms | "if" expr "then" open | "if" expr "then" expr "else" open | tup ":=" open | into "<-" open
into   = atom0 sel { sel } | "(" into ")" | "begin" into "end"
tup    = or { "," or }
or     = and ["||" or]
and    = cmp ["&&" and]
cmp    = cat { ( "=" | "<>" | "<" | ">" | "<=" | ">=" ) cat }
cat    = cons ["^" cat]
cons   = sum ["::" cons]
sum    = mul { ( "+" | "-" ) mul }
mul    = un { ( "*" | "/" | "mod" ) un }
un     = "-" un | "not" un | app
app    = "raise" post | CON [post] | post0 { post }
post0  = "!" post | atom0 { sel }
post   = post0 | CON { sel }
sel    = "." NAME | ".(" seq ")"
atom0  = INT | TEXT | "true" | "false" | NAME | "(" [seq] ")" | "begin" seq "end" | "[" [elems] "]" | "[|" [elems] "|]" | "{" fields "}"
elems  = expr | full ";" [elems]
fields = NAME "=" expr | NAME "=" full ";" [fields]
arms   = ["|"] arm { "|" arm }
arm    = pat ["when" expr] "->" seq
pat    = alt { "as" NAME }
alt    = ptup ["|" alt]
ptup   = pcons { "," pcons }
pcons  = papp ["::" pcons]
papp   = CON [patom] | patom
patom  = INT | "-" INT | TEXT | "true" | "false" | "_" | NAME | CON | "(" [pat] ")" | "[" [pat { ";" pat } [";"]] "]" | "{" NAME "=" pat { ";" NAME "=" pat } [";"] "}"
ty     = tprod ["->" ty]
tprod  = tpost { "*" tpost }
tpost  = tatom { NAME }
tatom  = NAME | "(" ty ")"
`

// way is one way to write a rule: other rules' names, and tokens.
type way struct {
	rule string
	of   []string
}

// maker reads the grammar; what stands in brackets becomes a rule with a name of its own.
type maker struct {
	words []string
	ways  []way
	made  int
}

func ways() []way {
	m := &maker{}
	for _, line := range strings.Split(strings.TrimSpace(grammar), "\n") {
		rule, of, _ := strings.Cut(line, " = ")
		m.words = cut(of)
		m.either(strings.TrimSpace(rule), "")
	}
	return m.ways
}

// cut parts a line into names, quoted signs and brackets.
func cut(s string) []string {
	var all []string
	for s = strings.TrimSpace(s); s != ""; s = strings.TrimSpace(s) {
		n := 1
		if s[0] == '"' {
			n = strings.Index(s[1:], "\"") + 2
		} else if !strings.ContainsRune("[]{}()|", rune(s[0])) {
			n = len(s) - len(strings.TrimLeft(s, "abcdefghijklmnopqrstuvwxyzABCDEFGHIJKLMNOPQRSTUVWXYZ0"))
		}
		all = append(all, s[:n])
		s = s[n:]
	}
	return all
}

// either reads ways with | between them, up to what closes them.
func (m *maker) either(rule, closing string) {
	of := []string{}
	for len(m.words) > 0 {
		x := m.words[0]
		m.words = m.words[1:]
		switch x {
		case closing:
			m.ways = append(m.ways, way{rule, of})
			return
		case "|":
			m.ways = append(m.ways, way{rule, of})
			of = nil
		case "(", "[", "{":
			m.made++
			inner := rule + strings.Repeat("'", m.made)
			m.either(inner, map[string]string{"(": ")", "[": "]", "{": "}"}[x])
			if x == "{" {
				again := inner + "+"
				m.ways = append(m.ways, way{again, nil}, way{again, []string{again, inner}})
				inner = again
			} else if x == "[" {
				m.ways = append(m.ways, way{inner, nil})
			}
			of = append(of, inner)
		default:
			of = append(of, x)
		}
	}
	m.ways = append(m.ways, way{rule, of})
}

// state is how far a way is read, and from which token on.
type state struct{ way, read, from int }

// reader goes through tokens with all ways at once, so a token that no way goes on with can't stand there.
type reader struct {
	ways  []way
	of    map[string][]int // a rule's ways
	empty map[string]bool  // rules that nothing can stand for
	sets  [][]state
	known map[state]bool // those of the last set
}

func newReader() *reader {
	r := &reader{ways: ways(), of: map[string][]int{}, empty: map[string]bool{}}
	for i, x := range r.ways {
		r.of[x.rule] = append(r.of[x.rule], i)
	}
	for range r.ways {
		for _, x := range r.ways {
			r.empty[x.rule] = r.empty[x.rule] || !slices.ContainsFunc(x.of, func(s string) bool { return !r.empty[s] })
		}
	}
	return r
}

func (r *reader) add(x state) {
	if !r.known[x] {
		r.known[x] = true
		r.sets[len(r.sets)-1] = append(r.sets[len(r.sets)-1], x)
	}
}

func (r *reader) begin() {
	r.sets = append(r.sets, nil)
	r.known = map[state]bool{}
}

// fill goes on wherever no token is needed.
func (r *reader) fill() {
	at := len(r.sets) - 1
	for i := 0; i < len(r.sets[at]); i++ {
		x := r.sets[at][i]
		w := r.ways[x.way]
		if x.read == len(w.of) {
			for _, y := range r.sets[x.from] {
				if up := r.ways[y.way].of; y.read < len(up) && up[y.read] == w.rule {
					r.add(state{y.way, y.read + 1, y.from})
				}
			}
			continue
		}
		for _, k := range r.of[w.of[x.read]] {
			r.add(state{k, 0, at})
		}
		if r.empty[w.of[x.read]] {
			r.add(state{x.way, x.read + 1, x.from})
		}
	}
}

// fault tells the number of the first token that can't stand where it does; how many there are, if all can.
func (r *reader) fault(tokens []api.Token) int {
	r.sets = nil
	r.begin()
	for _, k := range r.of["prog"] {
		r.add(state{k, 0, 0})
	}
	r.fill()
	for i, t := range tokens {
		s := map[int]string{api.TokEnd: "END", api.TokInt: "INT", api.TokText: "TEXT", api.TokName: "NAME", api.TokCon: "CON", api.TokSign: "\"" + t.S + "\""}[t.Kind]
		r.begin()
		for _, x := range r.sets[i] {
			if of := r.ways[x.way].of; x.read < len(of) && of[x.read] == s {
				r.add(state{x.way, x.read + 1, x.from})
			}
		}
		if len(r.sets[i+1]) == 0 {
			return i
		}
		r.fill()
	}
	return len(tokens)
}

// wantStands holds Parse against the grammar, and tells whether the source is one of its.
func wantStands(t *testing.T, r *reader, s string) bool {
	t.Helper()
	tokens, e, _ := lex.Lex(s)
	if e != api.OK {
		t.Fatalf("Lex(%q): error %d", s, e)
	}
	fault := r.fault(tokens)
	if fault < len(tokens) {
		wantFault(t, s, api.ErrSyntax, tokens[fault].At)
	} else if _, e, at := parse.Parse(s); e != api.OK {
		t.Errorf("Parse(%q): error %d at %d", s, e, at)
	}
	if t.Failed() {
		t.FailNow()
	}
	return fault == len(tokens)
}

// spoiled tells tokens with some of them changed.
func spoiled(r *rand.Rand, texts []string) []string {
	pool := strings.Fields("and as begin do done downto else end exception false for fun function if in let match mod mutable not of raise rec then to true try type when while with ( ) ( ) [ ] [| |] { } ; ; ; ;; , : :: := <- <- -> -> | | || && = = <> < > <= >= + - * / ^ ! . .( _ a b A B 1 \"s\"")
	all := slices.Clone(texts)
	for range 1 + r.Intn(3) {
		i := r.Intn(len(all) + 1)
		x := pool[r.Intn(len(pool))]
		switch {
		case r.Intn(4) == 0 || i == len(all):
			all = slices.Insert(all, i, x)
		case r.Intn(3) == 0:
			all = slices.Delete(all, i, i+1)
		case r.Intn(2) == 0:
			all[i] = x
		case r.Intn(6) == 0:
			all = all[:i]
		default:
			j := r.Intn(len(all))
			all[i], all[j] = all[j], all[i]
		}
	}
	return all
}

// P8.1

func TestTheGrammarAtRandom(t *testing.T) {
	good, bad := 0, 0
	read := newReader()
	for seed := range int64(4000) {
		r := rand.New(rand.NewSource(seed))
		w := &writer{r: r, lavish: seed%3 == 0, more: r.Intn(25)}
		if w.program(); len(w.texts) > 150 {
			continue
		}
		s, _ := source(w.texts, blank)
		if !wantStands(t, read, s) {
			t.Fatalf("%q should be of the grammar", s)
		}
		for range 3 {
			s, _ := source(spoiled(r, w.texts), blank)
			if wantStands(t, read, s) {
				good++
			} else {
				bad++
			}
		}
	}
	if good < 500 || bad < 5000 {
		t.Errorf("of the spoiled ones %d were no programs, %d were", bad, good)
	}
}

// Of the tokens that most hangs on, all expressions of up to three, or four.
func TestAllSmallExpressions(t *testing.T) {
	read := newReader()
	some := strings.Fields("a A 1 ( ) ; . .( <- := - ! = , | let fun if [ ] { } raise not")
	var all func(s string, n int)
	all = func(s string, n int) {
		wantStands(t, read, "let _ = "+s)
		if n == 0 {
			return
		}
		for _, x := range some {
			all(s+" "+x, n-1)
		}
	}
	all("", 3)
	some = strings.Fields("a A . <- ( ) ; ->")
	all("", 4)
	all("function", 4)
}

func TestAllSmallPatternsAndTypes(t *testing.T) {
	read := newReader()
	var all func(some []string, s, behind string, n int)
	all = func(some []string, s, behind string, n int) {
		wantStands(t, read, s+" "+behind)
		if n == 0 {
			return
		}
		for _, x := range some {
			all(some, s+" "+x, behind, n-1)
		}
	}
	patterns := strings.Fields("a A 1 - ( ) :: | as _ ,")
	all(patterns, "let", "= 1", 4)
	all(patterns, "let _ = fun", "-> 1", 4)
	all(strings.Fields("a A ( ) * ->"), "exception E of", "", 5)
	all(strings.Fields("A of a | * ;; { ; : } mutable"), "type a =", "", 4)
}
