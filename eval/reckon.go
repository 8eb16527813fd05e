package eval

import (
	"exitwave/api"
	"exitwave/bif"
	"exitwave/match"
	"exitwave/term"
)

// Words of errors.
const (
	bad      = "badarg"
	limit    = "system_limit"
	noClause = "function_clause"
)

// expr is the place of a node that is reckoned.
type expr int

func (n expr) do(m *Machine) {
	if x, is := match.Literal(m.tree, int(n)); is {
		m.made(x)
		return
	}
	node := m.at(int(n))
	switch node.Kind {
	case api.NVar:
		m.ahead = value(m.scope.env[node.S])
	case api.NTuple, api.NList, api.NCons, api.NCall, api.NApply:
		m.gather(&parts{node: node})
	case api.NOp:
		m.operation(node)
	case api.NMatch:
		m.wait(matching{pattern: node.L[0]}, node.L[1])
	case api.NBody:
		m.body(node.L)
	case api.NCase:
		m.wait(choosing{clauses: m.at(node.L[1]).L}, node.L[0])
	case api.NFun, api.NFunName:
		m.fun(int(n))
	case api.NTry:
		m.wait(trying{trial{node: node, env: m.scope.env}}, node.L[0])
	case api.NCatch:
		m.wait(catching{}, node.L[0])
	case api.NReceive:
		m.receive = node
		m.stop = api.Event{Kind: api.VWait, Zero: node.N == 1}
	default: // a number that is none
		m.fail(bad)
	}
}

// gather lets a node wait for its next part; if there is none, it has all that it needs.
func (m *Machine) gather(f *parts) {
	if len(f.done) < len(f.node.L) {
		m.wait(f, f.node.L[len(f.done)])
		return
	}
	switch f.node.Kind {
	case api.NTuple:
		m.made(api.Term{Kind: api.KTuple, L: f.done})
	case api.NList:
		m.made(api.Term{Kind: api.KList, L: f.done})
	case api.NCons:
		m.cons(f.done)
	case api.NOp:
		m.reckoned(f.node.S, f.done)
	case api.NCall:
		m.ahead = call{callee: named(f.node.S), l: f.done}
	case api.NApply:
		m.ahead = call{callee: applied(f.done[0]), l: f.done[1:]}
	}
}

func (m *Machine) cons(l []api.Term) {
	last := len(l) - 1
	if l[last].Kind != api.KList {
		m.fail(bad)
		return
	}
	m.made(api.Term{Kind: api.KList, L: append(l[:last], l[last].L...)})
}

func (m *Machine) operation(node api.Node) {
	switch {
	case node.S == "andalso" && len(node.L) == 2:
		m.wait(either{enough: "false", second: node.L[1]}, node.L[0])
	case node.S == "orelse" && len(node.L) == 2:
		m.wait(either{enough: "true", second: node.L[1]}, node.L[0])
	default:
		m.gather(&parts{node: node})
	}
}

func (m *Machine) reckoned(sign string, l []api.Term) {
	if sign == "!" {
		m.ask("send", l)
		return
	}
	m.told(bif.Op(sign, l))
}

// body reckons expressions one behind the other. (Only a tree that no source has, has a body without any.)
func (m *Machine) body(l []int) {
	switch len(l) {
	case 0:
		m.fail(bad)
	case 1:
		m.ahead = expr(l[0])
	default:
		m.wait(body{rest: l[1:]}, l[0])
	}
}

func (m *Machine) fun(n int) {
	x := api.Term{Kind: api.KFun, N: int64(n)}
	for _, name := range m.free(n) {
		x.L = append(x.L, m.scope.env[name])
	}
	m.made(x)
}

// choose tells the body of the first clause that is taken, and binds its variables.
func (m *Machine) choose(clauses []int, l []api.Term) (body int, is bool) {
	for _, c := range clauses {
		if env, is := match.Clause(m.tree, c, l, m.scope.env, m.self); is {
			m.scope.env = env
			has := m.at(c).L
			return has[len(has)-1], true
		}
	}
	return 0, false
}

// enter goes on with the first clause that is taken; the word is that of the error, if none is.
func (m *Machine) enter(clauses []int, l []api.Term, word string) {
	if n, is := m.choose(clauses, l); is {
		m.ahead = expr(n)
		return
	}
	m.fail(word)
}

func (m *Machine) ask(what string, l []api.Term) {
	m.stop = api.Event{Kind: api.VAsk, S: what, L: l}
}

// told goes on with what a layer below told.
func (m *Machine) told(x api.Term, e api.Errno) {
	if e != api.OK {
		m.fail(e.Error())
		return
	}
	m.ahead = value(x)
}

// made goes on with a term that was made of right ones: only a limit can keep it from being right.
func (m *Machine) made(x api.Term) {
	if term.Check(x) != api.OK {
		m.fail(limit)
		return
	}
	m.ahead = value(x)
}

func (m *Machine) fail(word string) { m.ahead = failure(word) }
