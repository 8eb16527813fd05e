package eval

import (
	"slices"

	"exitwave/api"
	"exitwave/check"
	"exitwave/term"
)

// noArity is that of what is no fun.
const noArity = -1

// head is what a function is called by.
type head struct {
	name string
	n    int
}

// module is a source to run in.
type module struct {
	tree  api.Tree
	funcs map[head]int     // where the functions stand
	known map[int][]string // what funs take along, as far as it was asked for: check goes through the whole source for each
}

// newModule takes a tree over. One that is not right may have no end, or not what its nodes must have: it has no functions here, and no funs.
func newModule(t api.Tree) *module {
	s := &module{funcs: map[head]int{}, known: map[int][]string{}}
	if check.Check(t) != nil {
		return s
	}
	s.tree = api.Tree{Nodes: slices.Clone(t.Nodes), Root: t.Root}
	for i := range s.tree.Nodes {
		s.tree.Nodes[i].L = slices.Clone(s.tree.Nodes[i].L)
	}
	for _, n := range s.at(t.Root).L {
		f := s.at(n)
		s.funcs[head{name: f.S, n: int(f.N)}] = n
	}
	return s
}

func (s *module) at(n int) api.Node { return s.tree.Nodes[n] }

// clauses tells those of a function or a fun.
func (s *module) clauses(n int) []int { return s.at(s.at(n).L[0]).L }

// free tells the names of the variables that a fun takes along.
func (s *module) free(n int) []string {
	names, is := s.known[n]
	if !is {
		names = check.Free(s.tree, n)
		s.known[n] = names
	}
	return names
}

// arity tells how many arguments a fun of the module takes.
func (s *module) arity(fun api.Term) int {
	if fun.Kind != api.KFun || term.Check(fun) != api.OK || fun.N >= int64(len(s.tree.Nodes)) {
		return noArity
	}
	n := int(fun.N)
	switch node := s.at(n); {
	case node.Kind == api.NFunName && len(fun.L) == 0:
		return int(node.N)
	case node.Kind == api.NFun && len(fun.L) == len(s.free(n)):
		return int(s.at(s.clauses(n)[0]).N)
	}
	return noArity
}

// along tells the variables that a clause of a fun has ahead of its patterns: those that stand in these are new ones.
func (s *module) along(fun api.Term, clause int) map[string]api.Term {
	env := map[string]api.Term{}
	for i, name := range s.free(int(fun.N)) {
		env[name] = fun.L[i]
	}
	node := s.at(clause)
	for _, pattern := range node.L[:node.N] {
		s.renew(env, pattern)
	}
	return env
}

// renew takes the variables of a pattern out of env.
func (s *module) renew(env map[string]api.Term, pattern int) {
	node := s.at(pattern)
	if node.Kind == api.NVar {
		delete(env, node.S)
	}
	for _, n := range node.L {
		s.renew(env, n)
	}
}
