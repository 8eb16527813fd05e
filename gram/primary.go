package gram

import "exitwave/api"

func (p *parser) primary() int {
	switch p.here().Kind {
	case api.TAtom, api.TVar, api.TInt, api.TFloat, api.TString:
		return p.leaf()
	case api.TSign:
		return p.bracketed()
	case api.TWord:
		return p.worded()
	}
	p.giveUp(api.ErrSyntax)
	return 0
}

// leaf lays what a single token stands for.
func (p *parser) leaf() int {
	t := p.next()
	return p.lay(api.Node{Kind: leafKind(t.Kind), S: t.S, N: t.N, F: t.F, At: t.At})
}

func leafKind(token int) int {
	switch token {
	case api.TAtom:
		return api.NAtom
	case api.TVar:
		return api.NVar
	case api.TInt:
		return api.NInt
	case api.TFloat:
		return api.NFloat
	}
	return api.NString
}

// bracketed: what begins with a sign.
func (p *parser) bracketed() int {
	switch p.here().S {
	case "(":
		p.next()
		x := p.expr()
		p.need(")")
		return x
	case "{":
		return p.tuple()
	case "[":
		return p.list()
	}
	p.giveUp(api.ErrSyntax)
	return 0
}

func (p *parser) tuple() int {
	n := api.Node{Kind: api.NTuple, At: p.next().At}
	if !p.is("}") {
		n.L = p.exprs(noBound)
	}
	p.need("}")
	return p.lay(n)
}

func (p *parser) list() int {
	n := api.Node{Kind: api.NList, At: p.next().At}
	if !p.is("]") {
		n.L = p.exprs(noBound)
		if p.take("|") {
			n.Kind = api.NCons
			n.L = append(n.L, p.expr())
		}
	}
	p.need("]")
	return p.lay(n)
}
