package gram

import "exitwave/api"

func (p *parser) expr() int {
	if p.open == api.MaxDepth {
		p.giveUp(api.ErrDeep)
	}
	p.open++
	x := p.opened()
	p.open--
	return x
}

// opened: an expr that is counted already.
func (p *parser) opened() int {
	at := p.here().At
	if p.take("catch") {
		x := p.expr()
		return p.lay(api.Node{Kind: api.NCatch, L: []int{x}, At: at})
	}
	left := p.orelse()
	if p.take("=") {
		right := p.expr()
		return p.lay(api.Node{Kind: api.NMatch, L: []int{left, right}, At: at})
	}
	if p.take("!") {
		right := p.expr()
		return p.operation(at, "!", left, right)
	}
	return left
}

// operation lays a NOp; at is that of the bracket, if its first operand stands in some.
func (p *parser) operation(at int, sign string, operands ...int) int {
	return p.lay(api.Node{Kind: api.NOp, S: sign, L: operands, At: at})
}

func (p *parser) orelse() int { return p.rightward(p.andalso, "orelse") }

func (p *parser) andalso() int { return p.rightward(p.compare, "andalso") }

func (p *parser) compare() int {
	at := p.here().At
	left := p.append()
	if !p.isComparing() {
		return left
	}
	sign := p.next().S
	right := p.append()
	return p.operation(at, sign, left, right)
}

func (p *parser) isComparing() bool {
	return p.is("==") || p.is("/=") || p.is("=<") || p.is("<") || p.is(">=") || p.is(">") || p.is("=:=") || p.is("=/=")
}

func (p *parser) append() int { return p.rightward(p.add, "++") }

// rightward: of several operators in a row the last one has its operands first.
func (p *parser) rightward(operand func() int, sign string) int {
	at := p.here().At
	left := operand()
	if !p.take(sign) {
		return left
	}
	right := p.rightward(operand, sign)
	return p.operation(at, sign, left, right)
}

func (p *parser) add() int {
	at := p.here().At
	left := p.mul()
	for p.is("+") || p.is("-") {
		sign := p.next().S
		right := p.mul()
		left = p.operation(at, sign, left, right)
	}
	return left
}

func (p *parser) mul() int {
	at := p.here().At
	left := p.unary()
	for p.is("*") || p.is("/") || p.is("div") || p.is("rem") {
		sign := p.next().S
		right := p.unary()
		left = p.operation(at, sign, left, right)
	}
	return left
}

func (p *parser) unary() int {
	var signs []api.Token
	for p.is("-") || p.is("not") {
		signs = append(signs, p.next())
	}
	x := p.call()
	for i := len(signs) - 1; i >= 0; i-- {
		x = p.operation(signs[i].At, signs[i].S, x)
	}
	return x
}

func (p *parser) call() int {
	at := p.here().At
	x := p.called()
	for p.is("(") {
		l := append([]int{x}, p.arguments()...)
		x = p.lay(api.Node{Kind: api.NApply, L: l, At: at})
	}
	return x
}

// called: an atom is no expression of its own, if it names what is called.
func (p *parser) called() int {
	if p.here().Kind != api.TAtom || !p.isAhead("(") {
		return p.primary()
	}
	name := p.next()
	l := p.arguments()
	return p.lay(api.Node{Kind: api.NCall, S: name.S, L: l, At: name.At})
}
