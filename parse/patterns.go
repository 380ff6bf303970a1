package parse

import "grapnel/api"

func (p *parser) pat() api.Node {
	n := p.alt()
	for p.comes("as") {
		n = api.Node{Kind: api.PAs, At: p.take().At, S: p.mustBe(api.TokName).S, L: []api.Node{n}}
	}
	return n
}

func (p *parser) alt() api.Node { return p.fromRight(p.ptup, p.alt, pair(api.POr), "|")() }

func (p *parser) ptup() api.Node { return p.inRow(p.pcons, api.PTuple, ",")() }

func (p *parser) pcons() api.Node {
	return p.fromRight(p.papp, p.pcons, applied(api.PCon, api.PTuple), "::")()
}

func (p *parser) papp() api.Node {
	if p.next().Kind != api.TokCon {
		return p.patom()
	}
	n := p.leaf(api.PCon)
	if p.beginsPatom() {
		n.L = []api.Node{p.patom()}
	}
	return n
}

func (p *parser) beginsPatom() bool {
	switch p.next().Kind {
	case api.TokInt, api.TokText, api.TokName, api.TokCon:
		return true
	}
	return p.comes("-", "true", "false", "_", "(", "[", "{")
}

func (p *parser) patom() api.Node {
	switch p.next().Kind {
	case api.TokInt:
		return p.leaf(api.PInt)
	case api.TokText:
		return p.leaf(api.PText)
	case api.TokName:
		return p.leaf(api.PName)
	case api.TokCon:
		return p.leaf(api.PCon)
	}
	switch p.sign() {
	case "-":
		at := p.take().At
		return api.Node{Kind: api.PInt, At: at, N: -p.mustBe(api.TokInt).N}
	case "true":
		return p.mark(api.PBool, 1)
	case "false":
		return p.mark(api.PBool, 0)
	case "_":
		return p.mark(api.PAny, 0)
	case "(":
		return p.bracketed(api.PUnit, p.pat)
	case "[":
		return p.listed(api.PList, p.pat, "]")
	case "{":
		return p.record(api.PRecord, api.PField, p.pat)
	}
	p.giveUp()
	return api.Node{}
}
