package eval

import (
	"exitwave/api"
	"exitwave/term"
)

// trial is what the frames of a try go by: its node, and the variables that were bound ahead of it.
type trial struct {
	node api.Node
	env  map[string]api.Term
}

// take lets the try wait for the body of the first clause that is taken; else it comes out with other.
func (f trial) take(m *Machine, clauses int, l []api.Term, other task) {
	if n, is := m.choose(m.at(clauses).L, l); is {
		m.wait(chosen{trial: f}, n)
		return
	}
	f.leave(m, other)
}

// leave lets the last body be reckoned ahead of what came out.
func (f trial) leave(m *Machine, out task) {
	m.scope.env = f.env
	if f.node.N == 1 {
		m.wait(leaving{out: out}, f.node.L[3])
		return
	}
	m.ahead = out
}

// trying waits for the body of a try.
type trying struct{ trial }

func (f trying) value(m *Machine, x api.Term) {
	of := f.node.L[1]
	if len(m.at(of).L) == 0 {
		f.leave(m, value(x))
		return
	}
	f.take(m, of, []api.Term{x}, failure("try_clause"))
}

func (f trying) raised(m *Machine, r raise) {
	m.scope.env = f.env
	f.take(m, f.node.L[2], []api.Term{term.Atom(classes[r.class]), r.term}, r)
}

// chosen waits for the body of a clause of a try, which catches nothing any more.
type chosen struct{ trial }

func (f chosen) value(m *Machine, x api.Term) { f.leave(m, value(x)) }

func (f chosen) raised(m *Machine, r raise) { f.leave(m, r) }

// leaving waits for the last body of a try, whose own value nobody asks for.
type leaving struct {
	passing
	out task
}

func (f leaving) value(m *Machine, x api.Term) { m.ahead = f.out }
