package gram

import "exitwave/api"

// worded: what begins with a kept word.
func (p *parser) worded() int {
	switch p.here().S {
	case "begin":
		return p.begin()
	case "case":
		return p.choice()
	case "fun":
		return p.fun()
	case "try":
		return p.try()
	case "receive":
		return p.receive()
	}
	p.giveUp(api.ErrSyntax)
	return 0
}

func (p *parser) begin() int {
	at := p.next().At
	l := p.exprs(noBound)
	p.need("end")
	return p.lay(api.Node{Kind: api.NBody, L: l, At: at})
}

func (p *parser) choice() int {
	at := p.next().At
	x := p.expr()
	p.need("of")
	clauses := p.clauses(p.clause)
	p.need("end")
	return p.lay(api.Node{Kind: api.NCase, L: []int{x, clauses}, At: at})
}

func (p *parser) fun() int {
	at := p.next().At
	if p.here().Kind == api.TAtom {
		return p.funName(at)
	}
	clauses := p.clauses(p.gclause)
	p.need("end")
	return p.lay(api.Node{Kind: api.NFun, L: []int{clauses}, At: at})
}

func (p *parser) funName(at int) int {
	name := p.next().S
	p.need("/")
	n := p.needKind(api.TInt)
	if n.N > api.MaxArity {
		giveUpAt(api.ErrMany, n.At)
	}
	return p.lay(api.Node{Kind: api.NFunName, S: name, N: n.N, At: at})
}

func (p *parser) try() int {
	n := api.Node{Kind: api.NTry, At: p.next().At}
	body := p.body()
	of := p.clausesBehind("of", p.clause)
	caught := p.is("catch")
	catch := p.clausesBehind("catch", p.cclause)
	if !caught && !p.is("after") {
		p.giveUp(api.ErrSyntax)
	}
	after := 0
	if p.take("after") {
		n.N = 1
		after = p.body()
	} else {
		after = p.layNone(api.NBody)
	}
	p.need("end")
	n.L = []int{body, of, catch, after}
	return p.lay(n)
}

// clausesBehind: the clauses behind a kept word, or none, if it is not there.
func (p *parser) clausesBehind(word string, clause func() int) int {
	if !p.take(word) {
		return p.layNone(api.NClauses)
	}
	return p.clauses(clause)
}

func (p *parser) receive() int {
	n := api.Node{Kind: api.NReceive, At: p.next().At}
	clauses := p.received()
	body := 0
	if p.take("after") {
		n.N = p.patience()
		p.need("->")
		body = p.body()
	} else {
		body = p.layNone(api.NBody)
	}
	p.need("end")
	n.L = []int{clauses, body}
	return p.lay(n)
}

// received: there are clauses, unless an after stands in their stead.
func (p *parser) received() int {
	if p.is("after") {
		return p.layNone(api.NClauses)
	}
	return p.clauses(p.clause)
}

// patience: how long a receive waits, as its node tells it.
func (p *parser) patience() int64 {
	t := p.here()
	if isAtom(t, "infinity") {
		p.next()
		return 2
	}
	if t.Kind != api.TInt || t.N != 0 {
		p.giveUp(api.ErrSyntax)
	}
	p.next()
	return 1
}
