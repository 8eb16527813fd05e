package eval

import (
	"exitwave/api"
	"exitwave/match"
	"exitwave/term"
)

// maxWaiting is how many nodes may wait at once.
const maxWaiting = 10000

// scope has the variables of one call of a function or a fun. All nodes that wait in that call share it, so that each sees what was bound while it waited. The map itself is never written in: a try keeps the one that was there ahead of it.
type scope struct {
	env map[string]api.Term
}

// frame is a node that waits while a part of it is reckoned.
type frame interface {
	value(m *Machine, x api.Term)
	raised(m *Machine, r raise)
}

// waiting is a frame on the stack, with the scope that it is part of.
type waiting struct {
	frame
	scope *scope
}

// wait lets a node wait while a part of it is reckoned.
func (m *Machine) wait(f frame, part int) {
	if len(m.stack) == maxWaiting {
		m.fail(limit)
		return
	}
	m.stack = append(m.stack, waiting{frame: f, scope: m.scope})
	m.ahead = expr(part)
}

// wake takes the innermost node that waits off the stack, and lets go of what it had there.
func (m *Machine) wake() (frame, bool) {
	last := len(m.stack) - 1
	if last < 0 {
		return nil, false
	}
	top := m.stack[last]
	m.stack[last] = waiting{}
	m.stack = m.stack[:last]
	m.scope = top.scope
	return top.frame, true
}

// value is handed to the node that waits for it.
type value api.Term

func (x value) do(m *Machine) {
	if f, is := m.wake(); is {
		f.value(m, api.Term(x))
		return
	}
	m.stop = api.Event{Kind: api.VDone, Term: api.Term(x)}
}

// raise is handed from node to node, until one catches it.
type raise struct {
	class int
	term  api.Term
}

func (r raise) do(m *Machine) {
	if f, is := m.wake(); is {
		f.raised(m, r)
		return
	}
	m.stop = api.Event{Kind: api.VRaise, Class: r.class, Term: r.term}
}

// failure is an error by its word.
func failure(word string) raise { return raise{class: api.CError, term: term.Atom(word)} }

// passing is part of the frames that catch nothing.
type passing struct{}

func (passing) raised(m *Machine, r raise) { m.ahead = r }

// parts waits for the parts of a node, from the left, and keeps their values.
type parts struct {
	passing
	node api.Node
	done []api.Term
}

func (f *parts) value(m *Machine, x api.Term) {
	f.done = append(f.done, x)
	m.gather(f)
}

// body waits for an expression of a body that has more behind it.
type body struct {
	passing
	rest []int
}

func (f body) value(m *Machine, x api.Term) { m.body(f.rest) }

// either waits for the first part of an andalso, an orelse.
type either struct {
	passing
	enough string // the boolean at which the second part does not matter
	second int
}

func (f either) value(m *Machine, x api.Term) {
	switch {
	case !isAtom(x, "true") && !isAtom(x, "false"):
		m.fail(bad)
	case isAtom(x, f.enough):
		m.ahead = value(x)
	default:
		m.ahead = expr(f.second)
	}
}

func isAtom(x api.Term, s string) bool { return x.Kind == api.KAtom && x.S == s }

// matching waits for the expression of a match.
type matching struct {
	passing
	pattern int
}

func (f matching) value(m *Machine, x api.Term) {
	env, is := match.Pattern(m.tree, f.pattern, x, m.scope.env)
	if !is {
		m.fail("badmatch")
		return
	}
	m.scope.env = env
	m.ahead = value(x)
}

// choosing waits for the expression of a case.
type choosing struct {
	passing
	clauses []int
}

func (f choosing) value(m *Machine, x api.Term) {
	m.enter(f.clauses, []api.Term{x}, "case_clause")
}

// catching waits for the expression of a catch.
type catching struct{}

func (catching) value(m *Machine, x api.Term) { m.ahead = value(x) }

func (catching) raised(m *Machine, r raise) {
	if r.class == api.CThrow {
		m.ahead = value(r.term)
		return
	}
	m.made(api.Term{Kind: api.KTuple, L: []api.Term{term.Atom("EXIT"), r.term}})
}
