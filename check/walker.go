package check

import (
	"errors"
	"slices"
	"strings"

	"exitwave/api"
)

// noGoal is a place of no node.
const noGoal = -1

// errGoal is what a walk ends with that came to its goal.
var errGoal = errors.New("goal")

// head is what a function is called by.
type head struct {
	name string
	n    int64
}

// walker goes over a tree that has the right shape, up to the first fault, or up to its goal, a fun.
type walker struct {
	nodes []api.Node
	goal  int
	free  []string     // what the goal takes along, if the walk came to it
	funcs map[head]int // where they stand
	vars  scope
}

func newWalker(t api.Tree, goal int) *walker {
	return &walker{nodes: t.Nodes, goal: goal, funcs: map[head]int{}, vars: scope{states: map[string]state{}}}
}

// wrong: a fault at a node.
func (w *walker) wrong(e api.Errno, n int) error { return wrong(e, w.nodes[n].At) }

// each walks nodes from the left.
func (w *walker) each(l []int, walk func(n int) error) error {
	for _, n := range l {
		if err := walk(n); err != nil {
			return err
		}
	}
	return nil
}

func (w *walker) module() error {
	functions := w.nodes[len(w.nodes)-1].L
	if err := w.each(functions, w.heads); err != nil {
		return err
	}
	return w.each(functions, w.function)
}

// heads looks at a function's clauses from outside, and enters it among those that may be called.
func (w *walker) heads(n int) error {
	f := w.nodes[n]
	for _, c := range w.nodes[f.L[0]].L {
		if w.nodes[c].S != f.S || w.nodes[c].N != f.N {
			return w.wrong(api.ErrHead, c)
		}
	}
	h := head{name: f.S, n: f.N}
	if _, is := w.funcs[h]; is {
		return w.wrong(api.ErrTwice, n)
	}
	w.funcs[h] = n
	return nil
}

func (w *walker) function(n int) error {
	if n < w.goal { // all that it has stands ahead of the goal, too
		return nil
	}
	_, err := w.clauses(w.nodes[n].L[0])
	return err
}

// clauses walks those that a NClauses has, each by itself, and tells the ways through them.
func (w *walker) clauses(n int) ([][]trace, error) {
	var ways [][]trace
	for _, c := range w.nodes[n].L {
		way, err := w.vars.apart(func() error { return w.clause(c) })
		if err != nil {
			return nil, err
		}
		ways = append(ways, way)
	}
	return ways, nil
}

func (w *walker) clause(n int) error {
	patterns, guard, body := w.parts(n)
	if err := w.each(patterns, w.pattern); err != nil {
		return err
	}
	if err := w.each(w.nodes[guard].L, w.test); err != nil {
		return err
	}
	return w.expr(body)
}

// parts tells what a NClause has.
func (w *walker) parts(n int) (patterns []int, guard, body int) {
	l := w.nodes[n].L
	last := len(l) - 1
	return l[:last-1], l[last-1], l[last]
}

func (w *walker) pattern(n int) error {
	node := w.nodes[n]
	switch node.Kind {
	case api.NInt, api.NFloat, api.NAtom, api.NString:
		return nil
	case api.NVar:
		return w.bind(n)
	case api.NTuple, api.NList, api.NCons, api.NMatch:
		return w.each(node.L, w.pattern)
	case api.NOp:
		if w.isNegative(node) {
			return nil
		}
	}
	return w.wrong(api.ErrPattern, n)
}

// isNegative: a number with a minus, the one operator that a pattern has.
func (w *walker) isNegative(op api.Node) bool {
	if op.S != "-" || len(op.L) != 1 {
		return false
	}
	kind := w.nodes[op.L[0]].Kind
	return kind == api.NInt || kind == api.NFloat
}

func (w *walker) bind(n int) error {
	name := w.nodes[n].S
	if name == "_" {
		return nil
	}
	if w.vars.states[name] == isUnsafe {
		return w.wrong(api.ErrUnsafe, n)
	}
	w.vars.put(name, isBound)
	return nil
}

// test walks an expression of a guard: nothing that may stand there binds, or calls what there is not.
func (w *walker) test(n int) error {
	node := w.nodes[n]
	if !mayTest(node) {
		return w.wrong(api.ErrGuard, n)
	}
	if node.Kind == api.NVar {
		return w.use(n)
	}
	return w.each(node.L, w.test)
}

// mayTest tells whether a node may stand in a guard, whatever it has.
func mayTest(node api.Node) bool {
	switch node.Kind {
	case api.NInt, api.NFloat, api.NAtom, api.NString, api.NVar, api.NTuple, api.NList, api.NCons:
		return true
	case api.NOp:
		return node.S != "!"
	case api.NCall:
		return isGuard(node.S, len(node.L))
	}
	return false
}

func (w *walker) use(n int) error {
	switch w.vars.states[w.nodes[n].S] {
	case isBound:
		return nil
	case isUnsafe:
		return w.wrong(api.ErrUnsafe, n)
	}
	return w.wrong(api.ErrUnbound, n)
}

// variables tells the names that occur at nodes and in what they have, each once, by the places of nodes.
func (w *walker) variables(l ...int) []string {
	var names []string
	seen := map[string]int{}
	for _, n := range l {
		for i := w.first(n); i <= n; i++ {
			node := w.nodes[i]
			if _, is := seen[node.S]; is || node.Kind != api.NVar {
				continue
			}
			seen[node.S] = i
			names = append(names, node.S)
		}
	}
	return names
}

// first tells the place from which on nodes are part of that at n: they stand side by side, up to n itself.
func (w *walker) first(n int) int {
	for len(w.nodes[n].L) > 0 {
		n = w.nodes[n].L[0]
	}
	return n
}

// taken tells the variables that a fun takes along, to which the walk has come.
func (w *walker) taken(fun int) []string {
	names := w.variables(fun)
	names = slices.DeleteFunc(names, func(name string) bool { return w.vars.states[name] != isBound })
	for i, name := range names {
		names[i] = strings.Clone(name)
	}
	return names
}
