package gram

import (
	"math"

	"exitwave/api"
)

// noBound: how many exprs a list may have, if no rule says how many.
const noBound = math.MaxInt

func (p *parser) module() int {
	at := p.here().At
	p.need("-")
	if !isAtom(p.here(), "module") {
		p.giveUp(api.ErrSyntax)
	}
	p.next()
	p.need("(")
	name := p.needKind(api.TAtom).S
	p.need(")")
	p.need(".")
	var functions []int
	for p.here().Kind != api.TEnd {
		functions = append(functions, p.function())
	}
	return p.lay(api.Node{Kind: api.NModule, S: name, L: functions, At: at})
}

func (p *parser) function() int {
	at := p.here().At
	clauses := p.clauses(p.fclause)
	p.need(".")
	first := p.nodes[p.nodes[clauses].L[0]]
	return p.lay(api.Node{Kind: api.NFunc, S: first.S, N: first.N, L: []int{clauses}, At: at})
}

// clauses: one, and as many as stand behind a `;`, each as the rule clause says.
func (p *parser) clauses(clause func() int) int {
	at := p.here().At
	l := []int{clause()}
	for p.take(";") {
		l = append(l, clause())
	}
	return p.lay(api.Node{Kind: api.NClauses, L: l, At: at})
}

func (p *parser) fclause() int {
	name := p.needKind(api.TAtom)
	return p.tail(name.At, name.S, p.arguments())
}

func (p *parser) gclause() int {
	at := p.here().At
	return p.tail(at, "", p.arguments())
}

func (p *parser) clause() int {
	at := p.here().At
	return p.tail(at, "", []int{p.expr()})
}

func (p *parser) cclause() int {
	at := p.here().At
	class := p.class()
	return p.tail(at, "", []int{class, p.expr()})
}

// class: what is caught, if it is told; else `throw`, and the pattern stands there.
func (p *parser) class() int {
	t := p.here()
	if t.Kind != api.TAtom && t.Kind != api.TVar || !p.isAhead(":") {
		return p.lay(api.Node{Kind: api.NAtom, S: "throw", At: t.At})
	}
	if !isClass(t) {
		p.giveUp(api.ErrSyntax)
	}
	class := p.leaf()
	p.need(":")
	return class
}

func isClass(t api.Token) bool {
	if t.Kind == api.TVar {
		return t.S == "_"
	}
	return t.S == "error" || t.S == "exit" || t.S == "throw"
}

// tail: a clause's guard and body, and with these the clause, which begins at at with patterns.
func (p *parser) tail(at int, name string, patterns []int) int {
	guard := p.guard()
	p.need("->")
	body := p.body()
	l := append(patterns, guard, body)
	return p.lay(api.Node{Kind: api.NClause, S: name, N: int64(len(l) - 2), L: l, At: at})
}

func (p *parser) guard() int {
	if !p.take("when") {
		return p.layNone(api.NGuard)
	}
	return p.group(api.NGuard)
}

func (p *parser) body() int { return p.group(api.NBody) }

// group: exprs, and the node of that kind which has them.
func (p *parser) group(kind int) int {
	at := p.here().At
	l := p.exprs(noBound)
	return p.lay(api.Node{Kind: kind, L: l, At: at})
}

// exprs: the one that would be more than most is not begun.
func (p *parser) exprs(most int) []int {
	l := []int{p.expr()}
	for p.take(",") {
		if len(l) == most {
			p.giveUp(api.ErrMany)
		}
		l = append(l, p.expr())
	}
	return l
}

// arguments: those of a call, or the patterns of a function or fun, in their brackets.
func (p *parser) arguments() []int {
	p.need("(")
	if p.take(")") {
		return nil
	}
	l := p.exprs(api.MaxArity)
	p.need(")")
	return l
}
