package parse

import "grapnel/api"

func (p *parser) ty() api.Node { return p.fromRight(p.tprod, p.ty, pair(api.TArrow), "->")() }

func (p *parser) tprod() api.Node { return p.inRow(p.tpost, api.TTuple, "*")() }

func (p *parser) tpost() api.Node {
	n := p.tatom()
	for p.next().Kind == api.TokName {
		of := n
		n = p.leaf(api.TApp)
		n.L = []api.Node{of}
	}
	return n
}

func (p *parser) tatom() api.Node {
	if p.has("(") {
		n := p.ty()
		p.must(")")
		return n
	}
	if p.next().Kind != api.TokName {
		p.giveUp()
	}
	return p.leaf(api.TName)
}
