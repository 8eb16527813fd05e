package eval

import (
	"exitwave/api"
	"exitwave/bif"
)

// classes: the names of the classes of raises, and of the builtins that raise.
var classes = [...]string{api.CError: "error", api.CExit: "exit", api.CThrow: "throw"}

// classOf tells the class of a name, 0 of one that is none.
func classOf(name string) int {
	for class, own := range classes {
		if own == name {
			return class
		}
	}
	return 0
}

// call is one whose arguments are reckoned.
type call struct {
	callee
	l []api.Term
}

// callee is what is called.
type callee interface {
	called(m *Machine, l []api.Term)
}

func (c call) do(m *Machine) {
	if m.fuel == 0 {
		m.stop = api.Event{Kind: api.VSpent}
		return
	}
	m.fuel--
	c.called(m, c.l)
}

// named is a function of the module, or a builtin.
type named string

func (c named) called(m *Machine, l []api.Term) {
	if n, is := m.funcs[head{name: string(c), n: len(l)}]; is {
		m.function(n, l)
		return
	}
	if class := classOf(string(c)); class != 0 && len(l) == 1 {
		m.ahead = raise{class: class, term: l[0]}
		return
	}
	x, e := bif.Call(string(c), l, m.arity)
	if e == api.ErrNone { // it is none of those that need no process
		m.ask(string(c), l)
		return
	}
	m.told(x, e)
}

// applied is a term that should be a fun.
type applied api.Term

func (c applied) called(m *Machine, l []api.Term) {
	switch m.arity(api.Term(c)) {
	case noArity:
		m.fail("badfun")
	case len(l):
		m.apply(api.Term(c), l)
	default:
		m.fail("badarity")
	}
}

func (m *Machine) apply(fun api.Term, l []api.Term) {
	n := int(fun.N)
	if node := m.at(n); node.Kind == api.NFunName {
		m.function(m.funcs[head{name: node.S, n: len(l)}], l)
		return
	}
	for _, c := range m.clauses(n) {
		m.scope = &scope{env: m.along(fun, c)}
		if body, is := m.choose([]int{c}, l); is {
			m.ahead = expr(body)
			return
		}
	}
	m.fail(noClause)
}

func (m *Machine) function(n int, l []api.Term) {
	m.scope = &scope{env: map[string]api.Term{}}
	m.enter(m.clauses(n), l, noClause)
}
