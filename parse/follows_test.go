package parse_test

import (
	"math/rand"
	"strings"
	"testing"

	"grapnel/api"
	"grapnel/lex"
	"grapnel/parse"
)

// writer makes up a program and writes it down as tokens, with brackets where they must be, and, if it is to be lavish, with more of them.
// What it tells of each part is the node that should come of it, At being the number of a token.
type writer struct {
	r      *rand.Rand
	lavish bool
	more   int // how many nodes there may still be, about
	texts  []string
}

// put writes a token, and tells its number.
func (w *writer) put(s string) int {
	w.texts = append(w.texts, s)
	return len(w.texts) - 1
}

func (w *writer) here() int { return len(w.texts) }

func (w *writer) pick(all ...string) string { return all[w.r.Intn(len(all))] }

func (w *writer) name() string { return w.pick("a", "b", "x'", "_y", "f1") }

func (w *writer) con() string { return w.pick("A", "B'", "C_1") }

func (w *writer) node(kind int, s string, parts ...api.Node) api.Node {
	return api.Node{Kind: kind, S: s, L: parts}
}

// wrap writes brackets round what is written within, if they must be, or some are wanted.
func (w *writer) wrap(must bool, within func(bracketed bool) api.Node, opening, closing string) api.Node {
	must = must || w.lavish && w.r.Intn(6) == 0
	if !must {
		return within(false)
	}
	w.put(opening)
	n := w.wrap(false, func(bool) api.Node { return within(true) }, "(", ")")
	w.put(closing)
	return n
}

// The rules of an expression, as numbers: brackets must be where a rule asks for less than there is.
const (
	inSeq = iota
	inExpr
	inTup
	inOr
	inAnd
	inCmp
	inCat
	inCons
	inSum
	inMul
	inUn
	inApp
	inPost
	inPart
	inAtom
)

// expr writes an expression where rule is asked for, and the sign behind follows.
func (w *writer) expr(rule int, behind string) api.Node {
	w.more--
	form := w.r.Intn(33)
	if w.more <= 0 {
		form = w.r.Intn(6)
	}
	own, open := w.shape(form)
	opening, closing := "(", ")"
	if w.r.Intn(3) == 0 {
		opening, closing = "begin", "end"
	}
	return w.wrap(own < rule || open(behind), func(bracketed bool) api.Node {
		if bracketed {
			rule, behind = inSeq, closing
		}
		return w.form(form, rule, behind)
	}, opening, closing)
}

// shape tells a form's rule, and which sign behind it would be taken for its own.
func (w *writer) shape(form int) (int, func(behind string) bool) {
	never := func(string) bool { return false }
	switch {
	case form < 10:
		return inAtom, never
	case form < 12:
		return inPart, never
	case form == 12:
		return inPost, never
	case form < 16:
		return inApp, never
	case form == 16:
		return inUn, never
	case form < 25:
		return inTup + form - 17, never
	case form == 25:
		return inSeq, never
	case form < 28:
		return inExpr, func(behind string) bool { return behind == ";" }
	case form == 28:
		return inExpr, func(behind string) bool { return behind == ";" || behind == "|" }
	case form == 29:
		return inExpr, func(behind string) bool { return behind == "else" }
	}
	return inExpr, never
}

func (w *writer) form(form, rule int, behind string) api.Node {
	switch {
	case form < 6:
		return w.small(form)
	case form < 10:
		return w.elems(form - 6)
	case form < 13:
		return w.part(form-10, rule)
	case form < 16:
		return w.app(form - 13)
	case form == 16:
		s := w.pick("-", "not")
		at := w.put(s)
		return at0(w.node(api.NUn, s, w.expr(inUn, "")), at)
	case form < 25:
		return w.joined(form - 17 + inTup)
	case form == 25:
		left := w.expr(inExpr, ";")
		at := w.put(";")
		return at0(w.node(api.NSeq, "", left, w.expr(inSeq, behind)), at)
	case form < 30:
		return w.choice(form-26, behind)
	case form == 30:
		return w.loop()
	}
	return w.assign(behind)
}

func at0(n api.Node, at int) api.Node {
	n.At = at
	return n
}

func (w *writer) small(form int) api.Node {
	s := w.name()
	switch form {
	case 0:
		return api.Node{Kind: api.NInt, N: 7, At: w.put("7")}
	case 1:
		return api.Node{Kind: api.NText, S: "|", At: w.put(`"|"`)}
	case 2:
		if w.r.Intn(2) == 0 {
			return api.Node{Kind: api.NBool, N: 1, At: w.put("true")}
		}
		return api.Node{Kind: api.NBool, At: w.put("false")}
	case 3:
		at := w.put("(")
		w.put(")")
		return api.Node{Kind: api.NUnit, At: at}
	case 4:
		s = w.con()
		return api.Node{Kind: api.NCon, S: s, At: w.put(s)}
	}
	return api.Node{Kind: api.NName, S: s, At: w.put(s)}
}

// list writes up to three parts in brackets, as it may be with a ; at the end.
func (w *writer) list(kind, least int, opening, closing string, part func(behind string) api.Node) api.Node {
	n := api.Node{Kind: kind, At: w.put(opening)}
	of := least + w.r.Intn(3)
	last := w.r.Intn(2) == 0
	for i := range of {
		behind := closing
		if i+1 < of || last {
			behind = ";"
		}
		n.L = append(n.L, part(behind))
		if behind == ";" {
			w.put(";")
		}
	}
	w.put(closing)
	return n
}

// field makes what writes a field.
func (w *writer) field(kind int, part func(behind string) api.Node) func(string) api.Node {
	return func(behind string) api.Node {
		s := w.name()
		at := w.put(s)
		w.put("=")
		return at0(w.node(kind, s, part(behind)), at)
	}
}

func (w *writer) elems(form int) api.Node {
	part := func(behind string) api.Node { return w.expr(inExpr, behind) }
	switch form {
	case 0:
		return w.list(api.NList, 0, "[", "]", part)
	case 1:
		return w.list(api.NArray, 0, "[|", "|]", part)
	case 2:
		return w.list(api.NRecord, 1, "{", "}", w.field(api.NField, part))
	}
	return w.small(5)
}

// of writes what a part is taken of: at the beginning of an app a constructor would be the app's.
func (w *writer) of(rule int) api.Node {
	from := w.here()
	n := w.expr(inPart, "")
	if rule <= inApp && w.texts[from][0] >= 'A' && w.texts[from][0] <= 'Z' {
		w.texts = w.texts[:from]
		return w.small(5)
	}
	return n
}

func (w *writer) part(form, rule int) api.Node {
	switch form {
	case 0:
		of, s := w.of(rule), w.name()
		at := w.put(".")
		w.put(s)
		return at0(w.node(api.NGet, s, of), at)
	case 1:
		of := w.of(rule)
		at := w.put(".(")
		n := at0(w.node(api.NAt, "", of, w.expr(inSeq, ")")), at)
		w.put(")")
		return n
	}
	at := w.put("!")
	return at0(w.node(api.NUn, "!", w.expr(inPost, "")), at)
}

func (w *writer) app(form int) api.Node {
	switch form {
	case 0:
		at := w.put("raise")
		return at0(w.node(api.NRaise, "", w.expr(inPost, "")), at)
	case 1:
		s := w.con()
		at := w.put(s)
		return at0(w.node(api.NCon, s, w.expr(inPost, "")), at)
	}
	from := w.here()
	n := w.node(api.NApp, "", w.expr(inPost, ""))
	if w.texts[from][0] >= 'A' && w.texts[from][0] <= 'Z' {
		w.texts = w.texts[:from]
		n.L[0] = w.small(5)
	}
	for range 1 + w.r.Intn(3) {
		n.L = append(n.L, w.expr(inPost, ""))
	}
	return at0(n, n.L[0].At)
}

func (w *writer) joined(rule int) api.Node {
	switch rule {
	case inTup:
		return w.row(api.NTuple, ",", func() api.Node { return w.expr(inOr, "") })
	case inOr:
		return w.binary(inAnd, inOr, "||")
	case inAnd:
		return w.binary(inCmp, inAnd, "&&")
	case inCmp:
		return w.binary(inCmp, inCat, w.pick("=", "<>", "<", ">", "<=", ">="))
	case inCat:
		return w.binary(inCons, inCat, "^")
	case inCons:
		return cell(w.binary(inSum, inCons, "::"), api.NCon, api.NTuple)
	case inSum:
		return w.binary(inSum, inMul, w.pick("+", "-"))
	}
	return w.binary(inMul, inUn, w.pick("*", "/", "mod"))
}

func (w *writer) binary(left, right int, s string) api.Node {
	l := w.expr(left, "")
	at := w.put(s)
	return at0(w.node(api.NBin, s, l, w.expr(right, "")), at)
}

// cell makes of what a :: joins a constructor of a tuple.
func cell(n api.Node, con, tuple int) api.Node {
	return api.Node{Kind: con, At: n.At, S: "::", L: []api.Node{{Kind: tuple, At: n.At, L: n.L}}}
}

// row writes two parts or three, with a sign between them.
func (w *writer) row(kind int, s string, part func() api.Node) api.Node {
	n := w.node(kind, "", part())
	n.At = w.put(s)
	n.L = append(n.L, part())
	if w.r.Intn(2) == 0 {
		w.put(s)
		n.L = append(n.L, part())
	}
	return n
}

// choice writes what ends in an expression that may take what is behind.
func (w *writer) choice(form int, behind string) api.Node {
	switch form {
	case 0:
		n := w.binds(api.NLet, "in")
		w.put("in")
		n.L = append(n.L, w.expr(inSeq, behind))
		return n
	case 1:
		at := w.put("fun")
		return at0(w.function("->", behind), at)
	case 2:
		n := api.Node{Kind: api.NCases}
		switch w.r.Intn(3) {
		case 0:
			n.At = w.put("function")
		case 1:
			n.Kind, n.At = api.NMatch, w.put("match")
			n.L = append(n.L, w.expr(inSeq, "with"))
			w.put("with")
		default:
			n.Kind, n.At = api.NTry, w.put("try")
			n.L = append(n.L, w.expr(inSeq, "with"))
			w.put("with")
		}
		n.L = append(n.L, w.arms(behind)...)
		return n
	}
	n := api.Node{Kind: api.NIf, At: w.put("if")}
	n.L = append(n.L, w.expr(inExpr, "then"))
	w.put("then")
	if behind == "else" || w.r.Intn(2) == 0 {
		n.L = append(n.L, w.expr(inExpr, "else"))
		w.put("else")
	}
	n.L = append(n.L, w.expr(inExpr, behind))
	return n
}

func (w *writer) arms(behind string) []api.Node {
	var all []api.Node
	if w.r.Intn(2) == 0 {
		w.put("|")
	}
	of := 1 + w.r.Intn(3)
	for i := range of {
		arm := api.Node{Kind: api.NArm, At: w.here()}
		arm.L = append(arm.L, w.pat(inPat))
		if w.r.Intn(3) == 0 {
			w.put("when")
			arm.L = append(arm.L, w.expr(inExpr, "->"))
		}
		w.put("->")
		if i+1 < of {
			arm.L = append(arm.L, w.expr(inSeq, "|"))
			w.put("|")
		} else {
			arm.L = append(arm.L, w.expr(inSeq, behind))
		}
		all = append(all, arm)
	}
	return all
}

// function writes parameters, and, behind a sign, the body.
func (w *writer) function(sign, behind string) api.Node {
	n := api.Node{Kind: api.NFun, At: w.here()}
	for range 1 + w.r.Intn(3) {
		n.L = append(n.L, w.pat(inPatom))
	}
	w.put(sign)
	n.L = append(n.L, w.expr(inSeq, behind))
	return n
}

func (w *writer) binds(kind int, behind string) api.Node {
	n := api.Node{Kind: kind, At: w.put("let")}
	if w.r.Intn(2) == 0 {
		n.N = 1
		w.put("rec")
	}
	of := 1 + w.r.Intn(2)
	for i := range of {
		last := behind
		if i+1 < of {
			last = "and"
		}
		n.L = append(n.L, w.bind(last))
		if i+1 < of {
			w.put("and")
		}
	}
	return n
}

func (w *writer) bind(behind string) api.Node {
	n := api.Node{Kind: api.NBind, At: w.here()}
	if w.r.Intn(2) == 0 {
		s := w.name()
		n.L = append(n.L, api.Node{Kind: api.PName, S: s, At: w.put(s)})
		n.L = append(n.L, w.function("=", behind))
		return n
	}
	n.L = append(n.L, w.pat(inPat))
	w.put("=")
	n.L = append(n.L, w.expr(inSeq, behind))
	return n
}

func (w *writer) loop() api.Node {
	n := api.Node{}
	if w.r.Intn(2) == 0 {
		n.Kind, n.At = api.NWhile, w.put("while")
		n.L = append(n.L, w.expr(inSeq, "do"))
	} else {
		n.Kind, n.S, n.At = api.NFor, w.name(), w.put("for")
		w.put(n.S)
		w.put("=")
		n.L = append(n.L, w.expr(inExpr, "to"))
		if w.r.Intn(2) == 0 {
			n.N = 1
			w.put("to")
		} else {
			w.put("downto")
		}
		n.L = append(n.L, w.expr(inExpr, "do"))
	}
	w.put("do")
	n.L = append(n.L, w.expr(inSeq, "done"))
	w.put("done")
	return n
}

func (w *writer) assign(behind string) api.Node {
	if w.r.Intn(3) == 0 {
		left := w.expr(inTup, "")
		at := w.put(":=")
		return w.assigned(at0(w.node(api.NBin, ":=", left), at), behind)
	}
	form := w.r.Intn(2)
	left := w.wrap(false, func(bracketed bool) api.Node { return w.part(form, inTup) }, "(", ")")
	n := api.Node{Kind: api.NSet, S: left.S, L: left.L, At: w.put("<-")}
	if form == 1 {
		n.Kind = api.NPut
	}
	return w.assigned(n, behind)
}

// assigned writes what is put into something. If that could take what is behind, it is written in brackets.
func (w *writer) assigned(n api.Node, behind string) api.Node {
	n.L = append(n.L[:len(n.L):len(n.L)], w.expr(inExpr, behind))
	return n
}

// The rules of a pattern.
const (
	inPat = iota
	inAlt
	inPtup
	inPcons
	inPapp
	inPatom
)

func (w *writer) pat(rule int) api.Node {
	w.more--
	form := w.r.Intn(15)
	if w.more <= 0 {
		form = w.r.Intn(8)
	}
	own := inPatom
	if form > 9 {
		own = form - 10
	}
	return w.wrap(own < rule, func(bool) api.Node { return w.patForm(form) }, "(", ")")
}

func (w *writer) patForm(form int) api.Node {
	part := func(string) api.Node { return w.pat(inPat) }
	switch form {
	case 8:
		return w.list(api.PList, 0, "[", "]", part)
	case 9:
		return w.list(api.PRecord, 1, "{", "}", w.field(api.PField, part))
	case 10 + inPat:
		of, s := w.pat(inPat), w.name()
		at := w.put("as")
		w.put(s)
		return at0(w.node(api.PAs, s, of), at)
	case 10 + inAlt:
		left := w.pat(inPtup)
		at := w.put("|")
		return at0(w.node(api.POr, "", left, w.pat(inAlt)), at)
	case 10 + inPtup:
		return w.row(api.PTuple, ",", func() api.Node { return w.pat(inPcons) })
	case 10 + inPcons:
		left := w.pat(inPapp)
		at := w.put("::")
		return cell(at0(w.node(0, "", left, w.pat(inPcons)), at), api.PCon, api.PTuple)
	case 10 + inPapp:
		s := w.con()
		at := w.put(s)
		return at0(w.node(api.PCon, s, w.pat(inPatom)), at)
	}
	return w.smallPat(form)
}

func (w *writer) smallPat(form int) api.Node {
	s := w.name()
	switch form {
	case 0:
		return api.Node{Kind: api.PInt, N: 5, At: w.put("5")}
	case 1:
		at := w.put("-")
		w.put("5")
		return api.Node{Kind: api.PInt, N: -5, At: at}
	case 2:
		return api.Node{Kind: api.PText, S: "let", At: w.put(`"let"`)}
	case 3:
		if w.r.Intn(2) == 0 {
			return api.Node{Kind: api.PBool, N: 1, At: w.put("true")}
		}
		return api.Node{Kind: api.PBool, At: w.put("false")}
	case 4:
		return api.Node{Kind: api.PAny, At: w.put("_")}
	case 5:
		s = w.con()
		return api.Node{Kind: api.PCon, S: s, At: w.put(s)}
	case 6:
		at := w.put("(")
		w.put(")")
		return api.Node{Kind: api.PUnit, At: at}
	}
	return api.Node{Kind: api.PName, S: s, At: w.put(s)}
}

// The rules of a type are 0, an arrow's, to 3, a name's.
func (w *writer) ty(rule int) api.Node {
	w.more--
	form := w.r.Intn(4)
	if w.more <= 0 {
		form = 3
	}
	return w.wrap(form < rule, func(bool) api.Node {
		s := w.name()
		switch form {
		case 0:
			left := w.ty(1)
			at := w.put("->")
			return at0(w.node(api.TArrow, "", left, w.ty(0)), at)
		case 1:
			return w.row(api.TTuple, "*", func() api.Node { return w.ty(2) })
		case 2:
			of := w.ty(2)
			return at0(w.node(api.TApp, s, of), w.put(s))
		}
		return api.Node{Kind: api.TName, S: s, At: w.put(s)}
	}, "(", ")")
}

// conOf writes a constructor, with something or without.
func (w *writer) conOf(kind int) api.Node {
	s := w.con()
	n := api.Node{Kind: kind, S: s, At: w.put(s)}
	if w.r.Intn(2) == 0 {
		w.put("of")
		n.L = append(n.L, w.ty(0))
	}
	return n
}

func (w *writer) item() api.Node {
	s := w.name()
	switch w.r.Intn(6) {
	case 0:
		at := w.put("exception")
		return at0(w.conOf(api.IExn), at)
	case 1:
		n := api.Node{Kind: api.IVariant, S: s, At: w.put("type")}
		w.put(s)
		w.put("=")
		if w.r.Intn(2) == 0 {
			w.put("|")
		}
		for i := range 1 + w.r.Intn(3) {
			if i > 0 {
				w.put("|")
			}
			n.L = append(n.L, w.conOf(api.ICon))
		}
		return n
	case 2:
		at := w.put("type")
		w.put(s)
		w.put("=")
		n := w.list(api.IRecord, 1, "{", "}", func(string) api.Node { return w.label() })
		n.At, n.S = at, s
		return n
	}
	return w.binds(api.ILet, "")
}

func (w *writer) label() api.Node {
	s := w.name()
	n := api.Node{Kind: api.ILabel, S: s, At: w.here()}
	if w.r.Intn(2) == 0 {
		n.N = 1
		w.put("mutable")
	}
	w.put(s)
	w.put(":")
	n.L = append(n.L, w.ty(0))
	return n
}

// program writes one, and tells the tree that should come of it; the Program's own place is no token's.
func (w *writer) program() api.Node {
	n := api.Node{Kind: api.Program}
	for range w.r.Intn(4) {
		n.L = append(n.L, w.item())
		if w.r.Intn(3) == 0 {
			w.put(";;")
		}
	}
	return n
}

// placed tells a tree with tokens' places for their numbers.
func placed(n api.Node, at []int) api.Node {
	n.At = at[n.At]
	l := n.L
	n.L = nil
	for _, x := range l {
		n.L = append(n.L, placed(x, at))
	}
	return n
}

// source tells the tokens' text, with something between them, and each one's place.
func source(texts []string, between func() string) (string, []int) {
	var s strings.Builder
	s.WriteString(between())
	var at []int
	for _, x := range texts {
		at = append(at, s.Len())
		s.WriteString(x + between())
	}
	return s.String(), append(at, 0)
}

func blank() string { return " " }

func gap(r *rand.Rand) func() string {
	return func() string {
		s := " "
		for range r.Intn(3) {
			s += []string{"(**)", "(* ) (* let *) *)", "\n", "\t ", "\r\n"}[r.Intn(5)]
		}
		return s
	}
}

// P8.3

// What is written down in some way is read as what was meant, each node at its place, with blanks and comments of any kind.
func TestProgramsAtRandom(t *testing.T) {
	read, kinds := 0, map[int]int{}
	for seed := range int64(6000) {
		r := rand.New(rand.NewSource(seed))
		w := &writer{r: r, lavish: seed%2 == 0, more: r.Intn(60)}
		n := w.program()
		for _, between := range []func() string{blank, gap(r)} {
			s, at := source(w.texts, between)
			if len(s) > api.MaxSource {
				continue
			}
			want := n
			want.L = placed(n, at).L
			got, e, place := parse.Parse(s)
			if e == api.ErrDeep || e == api.ErrMany {
				t.Fatalf("%q is too great", s)
			}
			if e != api.OK || place != 0 || told(got, 0) != told(want, 0) {
				t.Fatalf("Parse(%q): error %d at %d\ngot  %s\nwant %s", s, e, place, told(got, 0), told(want, 0))
			}
			read++
		}
		countKinds(n, kinds)
	}
	if read < 9000 {
		t.Errorf("only %d programs were short enough", read)
	}
	for kind := range 300 {
		if kindName(kind) != "" && kinds[kind] < 100 {
			t.Errorf("%s came %d times", kindName(kind), kinds[kind])
		}
	}
}

func countKinds(n api.Node, kinds map[int]int) {
	kinds[n.Kind]++
	for _, x := range n.L {
		countKinds(x, kinds)
	}
}

// What was read, its tokens written anew, is the same but for places; so it is with brackets round each part that may have them.
func TestTheSameTokensTellTheSameTree(t *testing.T) {
	for _, s := range []string{
		"let rec f n = if n = 0 then 0 else n + f (n - 1) let _ = print_int (f 20)",
		"type r = {mutable a : int} let x = {a = 1} let _ = match x with {a = 1} when (x.a <- 2; false) -> () | {a = 2} -> print_string \"anew\" | _ -> ()",
		"let _ = try print_int (1 / 0) with Division_by_zero -> print_string \"zero\"",
		"let a=[|1;2|]let b=a.(0)::[];;let()=a.(1)<-b.c",
		"exception E of int*string type t=|A|B of(t->int)list",
	} {
		n, e, _ := parse.Parse(s)
		tokens, _, _ := lex.Lex(s)
		again := ""
		for _, x := range tokens {
			again += " (* \" *)\n" + lex.Text(x) + "\t(**)"
		}
		anew, f, _ := parse.Parse(again)
		if e != api.OK || f != api.OK || told(n, -1) != told(anew, -1) {
			t.Errorf("%q: %d, %s\n%q: %d, %s", s, e, told(n, -1), again, f, told(anew, -1))
		}
	}
	same := func(s, again string) {
		t.Helper()
		n, e, _ := parse.Parse(s)
		anew, f, _ := parse.Parse(again)
		if e != api.OK || f != api.OK || told(n, -1) != told(anew, -1) {
			t.Errorf("%q: %d, %s\n%q: %d, %s", s, e, told(n, -1), again, f, told(anew, -1))
		}
	}
	same("let f x = x + y * 2", "let f = fun (x) -> (x + begin (y) * 2 end)")
	same("let _ = a; b; c", "let _ = a; (b; c)")
	same("let a, b as c = 1", "let ((a), (b)) as c = (1)")
	same("exception E of a list * b -> c", "exception E of (((a) list) * b -> (c))")
	same("let _ = f a.b.(c)", "let _ = (f) (((a).b).((c)))")
}

// R3, R5

// spoil overwrites a tree, and what its lists have room for.
func spoil(n *api.Node) {
	all := n.L[:cap(n.L)]
	for i := range all {
		spoil(&all[i])
	}
	*n = api.Node{Kind: -1, At: -1}
}

func TestAnswersShareNothing(t *testing.T) {
	s := "let f x y = a.b <- 1; c.(2) <- d :: e, f, g let _ = [1; 2; 3] type t = A of a list * b * c | B | C let _ = match a with 1 -> b | 2 -> c | 3 | 4 as d -> e"
	first, _, _ := parse.Parse(s)
	want := told(first, 0)
	second, _, _ := parse.Parse(s)
	spoil(&first)
	if told(second, 0) != want {
		t.Error("two answers share something")
	}
	// Each list's room is its own: what is laid behind it touches no other part.
	var lay func(n api.Node)
	lay = func(n api.Node) {
		_ = append(n.L, make([]api.Node, cap(n.L)-len(n.L))...)
		for _, x := range n.L {
			lay(x)
		}
	}
	lay(second)
	if told(second, 0) != want {
		t.Error("two lists of an answer share something")
	}
}
