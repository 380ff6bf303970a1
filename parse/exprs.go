package parse

import "grapnel/api"

func (p *parser) seq() api.Node { return p.fromRight(p.expr, p.seq, pair(api.NSeq), ";")() }

func (p *parser) expr() api.Node {
	switch p.sign() {
	case "let":
		n := p.binds(api.NLet)
		p.must("in")
		n.L = append(n.L, p.seq())
		return n
	case "fun":
		return p.function(p.take().At, "->")
	case "function":
		return api.Node{Kind: api.NCases, At: p.take().At, L: p.arms()}
	case "match":
		return p.cases(api.NMatch)
	case "try":
		return p.cases(api.NTry)
	case "if":
		return p.choice()
	case "while":
		n := api.Node{Kind: api.NWhile, At: p.take().At, L: []api.Node{p.seq()}}
		n.L = append(n.L, p.loop())
		return n
	case "for":
		return p.count()
	}
	return p.put()
}

func (p *parser) cases(kind int) api.Node {
	n := api.Node{Kind: kind, At: p.take().At, L: []api.Node{p.seq()}}
	p.must("with")
	n.L = append(n.L, p.arms()...)
	return n
}

func (p *parser) arms() []api.Node {
	p.has("|")
	all := []api.Node{p.arm()}
	for p.has("|") {
		all = append(all, p.arm())
	}
	return all
}

func (p *parser) arm() api.Node {
	n := api.Node{Kind: api.NArm, At: p.next().At, L: []api.Node{p.pat()}}
	if p.has("when") {
		n.L = append(n.L, p.expr())
	}
	p.must("->")
	n.L = append(n.L, p.seq())
	return n
}

func (p *parser) choice() api.Node {
	n := api.Node{Kind: api.NIf, At: p.take().At, L: []api.Node{p.expr()}}
	p.must("then")
	n.L = append(n.L, p.expr())
	if p.has("else") {
		n.L = append(n.L, p.expr())
	}
	return n
}

// loop reads what a loop does.
func (p *parser) loop() api.Node {
	p.must("do")
	n := p.seq()
	p.must("done")
	return n
}

func (p *parser) count() api.Node {
	n := api.Node{Kind: api.NFor, At: p.take().At, S: p.mustBe(api.TokName).S}
	p.must("=")
	from := p.expr()
	if p.comes("to") {
		n.N = 1
	} else if !p.comes("downto") {
		p.giveUp()
	}
	p.take()
	to := p.expr()
	n.L = []api.Node{from, to, p.loop()}
	return n
}

// put reads the last of expr's forms, what may have something put into it.
func (p *parser) put() api.Node {
	n := p.tup()
	switch p.sign() {
	case ":=":
		return binary(p.take(), n, p.expr())
	case "<-":
		switch n.Kind {
		case api.NGet:
			return api.Node{Kind: api.NSet, At: p.take().At, S: n.S, L: []api.Node{n.L[0], p.expr()}}
		case api.NAt:
			return api.Node{Kind: api.NPut, At: p.take().At, L: []api.Node{n.L[0], n.L[1], p.expr()}}
		}
		p.giveUp()
	}
	return n
}

func (p *parser) tup() api.Node { return p.inRow(p.or, api.NTuple, ",")() }

func (p *parser) or() api.Node { return p.fromRight(p.and, p.or, binary, "||")() }

func (p *parser) and() api.Node { return p.fromRight(p.cmp, p.and, binary, "&&")() }

func (p *parser) cmp() api.Node { return p.fromLeft(p.cat, "=", "<>", "<", ">", "<=", ">=")() }

func (p *parser) cat() api.Node { return p.fromRight(p.cons, p.cat, binary, "^")() }

func (p *parser) cons() api.Node {
	return p.fromRight(p.sum, p.cons, applied(api.NCon, api.NTuple), "::")()
}

func (p *parser) sum() api.Node { return p.fromLeft(p.mul, "+", "-")() }

func (p *parser) mul() api.Node { return p.fromLeft(p.un, "*", "/", "mod")() }

func (p *parser) un() api.Node {
	if p.comes("-", "not") {
		return p.signed(p.un)
	}
	return p.app()
}

// signed reads a sign and what stands behind it.
func (p *parser) signed(part rule) api.Node {
	n := p.leaf(api.NUn)
	n.L = []api.Node{part()}
	return n
}

func (p *parser) app() api.Node {
	if p.comes("raise") {
		return api.Node{Kind: api.NRaise, At: p.take().At, L: []api.Node{p.post()}}
	}
	if p.next().Kind == api.TokCon {
		n := p.leaf(api.NCon)
		if p.beginsPost() {
			n.L = []api.Node{p.post()}
		}
		return n
	}
	n := p.post()
	if !p.beginsPost() {
		return n
	}
	n = api.Node{Kind: api.NApp, At: n.At, L: []api.Node{n}}
	for p.beginsPost() {
		n.L = append(n.L, p.post())
	}
	return n
}

func (p *parser) beginsPost() bool {
	switch p.next().Kind {
	case api.TokInt, api.TokText, api.TokName, api.TokCon:
		return true
	}
	return p.comes("!", "true", "false", "(", "begin", "[", "[|", "{")
}

func (p *parser) post() api.Node {
	if p.comes("!") {
		return p.signed(p.post)
	}
	n := p.atom()
	for p.comes(".", ".(") {
		n = p.part(n)
	}
	return n
}

// part reads which part of something is meant.
func (p *parser) part(of api.Node) api.Node {
	t := p.take()
	if t.S == "." {
		return api.Node{Kind: api.NGet, At: t.At, S: p.mustBe(api.TokName).S, L: []api.Node{of}}
	}
	n := api.Node{Kind: api.NAt, At: t.At, L: []api.Node{of, p.seq()}}
	p.must(")")
	return n
}

func (p *parser) atom() api.Node {
	switch p.next().Kind {
	case api.TokInt:
		return p.leaf(api.NInt)
	case api.TokText:
		return p.leaf(api.NText)
	case api.TokName:
		return p.leaf(api.NName)
	case api.TokCon:
		return p.leaf(api.NCon)
	}
	switch p.sign() {
	case "true":
		return p.mark(api.NBool, 1)
	case "false":
		return p.mark(api.NBool, 0)
	case "(":
		return p.bracketed(api.NUnit, p.seq)
	case "begin":
		p.take()
		n := p.seq()
		p.must("end")
		return n
	case "[":
		return p.elems(api.NList, "]")
	case "[|":
		return p.elems(api.NArray, "|]")
	case "{":
		return p.record(api.NRecord, api.NField, p.expr)
	}
	p.giveUp()
	return api.Node{}
}

// elems reads a list's or an array's, with the brackets round them.
func (p *parser) elems(kind int, closing string) api.Node { return p.listed(kind, p.expr, closing) }
