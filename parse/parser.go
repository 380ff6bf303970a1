package parse

import (
	"slices"

	"grapnel/api"
)

// fault is what is panicked with at a token that can't stand where it does.
type fault struct{ at int }

// parser goes through a source's tokens from the left. Each rule of the grammar is a method of it.
type parser struct {
	tokens []api.Token // those to come: the end is the last one, and no rule takes it
}

// rule reads what a rule of the grammar says, from the next token on.
type rule func() api.Node

// tree tells the tree of some tokens, or the place of the first one that can't stand where it does.
func tree(tokens []api.Token) (n api.Node, at int, is bool) {
	defer func() {
		if f, given := recover().(fault); given {
			n, at, is = api.Node{}, f.at, false
		}
	}()
	p := &parser{tokens}
	return p.prog(), 0, true
}

func (p *parser) next() api.Token { return p.tokens[0] }

func (p *parser) giveUp() { panic(fault{p.next().At}) }

func (p *parser) take() api.Token {
	t := p.next()
	p.tokens = p.tokens[1:]
	return t
}

// sign tells the sign or word that comes next; nothing, if something else comes: a text may have the bytes of one.
func (p *parser) sign() string {
	if t := p.next(); t.Kind == api.TokSign {
		return t.S
	}
	return ""
}

func (p *parser) comes(signs ...string) bool { return slices.Contains(signs, p.sign()) }

// has takes a sign, if it comes next.
func (p *parser) has(sign string) bool {
	if !p.comes(sign) {
		return false
	}
	p.take()
	return true
}

// must takes a sign that nothing else can stand for.
func (p *parser) must(sign string) {
	if !p.has(sign) {
		p.giveUp()
	}
}

// mustBe takes a token of a kind that no other can stand for.
func (p *parser) mustBe(kind int) api.Token {
	if p.next().Kind != kind {
		p.giveUp()
	}
	return p.take()
}

// leaf is a node of one token.
func (p *parser) leaf(kind int) api.Node {
	t := p.take()
	return api.Node{Kind: kind, At: t.At, N: t.N, S: t.S}
}

// mark is a node of one sign, which stands for a number, or for nothing.
func (p *parser) mark(kind int, n int64) api.Node {
	return api.Node{Kind: kind, At: p.take().At, N: n}
}

// fromLeft makes a rule that joins from the left what next reads: a - b - c is (a - b) - c.
func (p *parser) fromLeft(next rule, signs ...string) rule {
	return func() api.Node {
		n := next()
		for p.comes(signs...) {
			n = binary(p.take(), n, next())
		}
		return n
	}
}

// fromRight makes a rule that joins from the right what next reads with what rest, the rule itself, does.
func (p *parser) fromRight(next, rest rule, join func(sign api.Token, left, right api.Node) api.Node, sign string) rule {
	return func() api.Node {
		n := next()
		if !p.comes(sign) {
			return n
		}
		return join(p.take(), n, rest())
	}
}

// inRow makes a rule that joins in one node all that next reads; one alone stays as it is.
func (p *parser) inRow(next rule, kind int, sign string) rule {
	return func() api.Node {
		n := next()
		if !p.comes(sign) {
			return n
		}
		row := api.Node{Kind: kind, At: p.next().At, L: []api.Node{n}}
		for p.has(sign) {
			row.L = append(row.L, next())
		}
		return row
	}
}

// binary is what two parts with a sign between them are, as a rule.
func binary(sign api.Token, left, right api.Node) api.Node {
	return api.Node{Kind: api.NBin, At: sign.At, S: sign.S, L: []api.Node{left, right}}
}

// pair makes what joins two parts in a node of that kind alone.
func pair(kind int) func(sign api.Token, left, right api.Node) api.Node {
	return func(sign api.Token, left, right api.Node) api.Node {
		return api.Node{Kind: kind, At: sign.At, L: []api.Node{left, right}}
	}
}

// applied makes what joins two parts by a constructor that is a sign, which has a tuple of both.
func applied(con, tuple int) func(sign api.Token, left, right api.Node) api.Node {
	return func(sign api.Token, left, right api.Node) api.Node {
		return api.Node{Kind: con, At: sign.At, S: sign.S, L: []api.Node{pair(tuple)(sign, left, right)}}
	}
}

// list reads one part or more, with ; between them and, as it may be, behind them, up to what closes them.
func (p *parser) list(part rule, closing string) []api.Node {
	all := []api.Node{part()}
	for p.has(";") && !p.comes(closing) {
		all = append(all, part())
	}
	p.must(closing)
	return all
}

// listed reads brackets with a list in them, or with nothing.
func (p *parser) listed(kind int, part rule, closing string) api.Node {
	n := api.Node{Kind: kind, At: p.take().At}
	if !p.has(closing) {
		n.L = p.list(part, closing)
	}
	return n
}

// record reads brackets with a list of fields in them, each a name and what part reads.
func (p *parser) record(kind, field int, part rule) api.Node {
	n := api.Node{Kind: kind, At: p.take().At}
	n.L = p.list(func() api.Node {
		f := api.Node{Kind: field, At: p.next().At, S: p.mustBe(api.TokName).S}
		p.must("=")
		f.L = []api.Node{part()}
		return f
	}, "}")
	return n
}

// bracketed reads round brackets: with nothing in them they are the unit, else they leave no node.
func (p *parser) bracketed(unit int, inner rule) api.Node {
	at := p.take().At
	if p.has(")") {
		return api.Node{Kind: unit, At: at}
	}
	n := inner()
	p.must(")")
	return n
}
