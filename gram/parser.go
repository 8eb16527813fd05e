package gram

import "exitwave/api"

// parser goes through tokens and lays nodes. Its methods that are named after rules of the grammar go through what these say, and tell the place of the node that they end with.
type parser struct {
	tokens []api.Token // those that are not gone through yet; the end stays
	nodes  []api.Node
	open   int // how many exprs have begun and are not at their end
}

func (p *parser) here() api.Token { return p.tokens[0] }

func (p *parser) next() api.Token {
	t := p.tokens[0]
	p.tokens = p.tokens[1:]
	return t
}

// isMark: a quoted atom may have the text of a sign or a kept word, and is neither.
func isMark(t api.Token, s string) bool {
	return (t.Kind == api.TSign || t.Kind == api.TWord) && t.S == s
}

func isAtom(t api.Token, s string) bool { return t.Kind == api.TAtom && t.S == s }

// is tells whether the next token is the sign or the kept word s.
func (p *parser) is(s string) bool { return isMark(p.here(), s) }

// isAhead tells it of the token behind the next one; the next one is not the end.
func (p *parser) isAhead(s string) bool { return isMark(p.tokens[1], s) }

// take goes through s, if it is next.
func (p *parser) take(s string) bool {
	if !p.is(s) {
		return false
	}
	p.next()
	return true
}

// need goes through s, which must be next.
func (p *parser) need(s string) {
	if !p.take(s) {
		p.giveUp(api.ErrSyntax)
	}
}

// needKind goes through a token of that kind, which must be next.
func (p *parser) needKind(kind int) api.Token {
	if p.here().Kind != kind {
		p.giveUp(api.ErrSyntax)
	}
	return p.next()
}

// giveUp: the fault is at the next token.
func (p *parser) giveUp(e api.Errno) { giveUpAt(e, p.here().At) }

func giveUpAt(e api.Errno, at int) { panic(api.Fault{Err: e, At: at}) }

// lay puts a node behind all others, and tells its place.
func (p *parser) lay(n api.Node) int {
	if len(p.nodes) == api.MaxNodes {
		giveUpAt(api.ErrMany, n.At)
	}
	p.nodes = append(p.nodes, n)
	return len(p.nodes) - 1
}

// layNone lays a node that has none: nothing stands for it, but the next token stands there.
func (p *parser) layNone(kind int) int {
	return p.lay(api.Node{Kind: kind, At: p.here().At})
}
