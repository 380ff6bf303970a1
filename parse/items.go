package parse

import "grapnel/api"

func (p *parser) prog() api.Node {
	n := api.Node{Kind: api.Program}
	for p.next().Kind != api.TokEnd {
		n.L = append(n.L, p.item())
		p.has(";;")
	}
	return n
}

func (p *parser) item() api.Node {
	switch p.sign() {
	case "let":
		return p.binds(api.ILet)
	case "type":
		at, name := p.take().At, p.mustBe(api.TokName).S
		p.must("=")
		n := p.def()
		n.At, n.S = at, name
		return n
	case "exception":
		at, n := p.take().At, p.con()
		n.Kind, n.At = api.IExn, at
		return n
	}
	p.giveUp()
	return api.Node{}
}

// binds reads what the lets at the top and the others have in common.
func (p *parser) binds(kind int) api.Node {
	n := api.Node{Kind: kind, At: p.take().At}
	if p.has("rec") {
		n.N = 1
	}
	n.L = []api.Node{p.bind()}
	for p.has("and") {
		n.L = append(n.L, p.bind())
	}
	return n
}

func (p *parser) bind() api.Node {
	first, ahead := p.next(), len(p.tokens)
	n := api.Node{Kind: api.NBind, At: first.At, L: []api.Node{p.pat()}}
	alone := first.Kind == api.TokName && len(p.tokens) == ahead-1 // a name in brackets can have no parameters
	if alone && !p.comes("=") {
		n.L = append(n.L, p.function(p.next().At, "="))
		return n
	}
	p.must("=")
	n.L = append(n.L, p.seq())
	return n
}

// function reads parameters and, behind a sign, the body.
func (p *parser) function(at int, sign string) api.Node {
	n := api.Node{Kind: api.NFun, At: at, L: []api.Node{p.patom()}}
	for p.beginsPatom() {
		n.L = append(n.L, p.patom())
	}
	p.must(sign)
	n.L = append(n.L, p.seq())
	return n
}

func (p *parser) def() api.Node {
	if p.has("{") {
		return api.Node{Kind: api.IRecord, L: p.list(p.lab, "}")}
	}
	p.has("|")
	n := api.Node{Kind: api.IVariant, L: []api.Node{p.con()}}
	for p.has("|") {
		n.L = append(n.L, p.con())
	}
	return n
}

func (p *parser) con() api.Node {
	n := api.Node{Kind: api.ICon, At: p.next().At, S: p.mustBe(api.TokCon).S}
	if p.has("of") {
		n.L = []api.Node{p.ty()}
	}
	return n
}

func (p *parser) lab() api.Node {
	n := api.Node{Kind: api.ILabel, At: p.next().At}
	if p.has("mutable") {
		n.N = 1
	}
	n.S = p.mustBe(api.TokName).S
	p.must(":")
	n.L = []api.Node{p.ty()}
	return n
}
