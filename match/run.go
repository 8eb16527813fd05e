package match

import (
	"exitwave/api"
	"exitwave/term"
)

// noNode is a place of no node.
const noNode = -1

// run is what one call goes by: a tree, and the values of variables.
type run struct {
	tree  api.Tree
	left  int                 // how many nodes may still be come to
	env   map[string]api.Term // what was handed in, which stays as it is
	bound map[string]api.Term // what patterns bound besides
}

// newRun: no node of a right tree is come to twice in one call, so that more than MaxNodes are those of a tree that goes round in a ring, or has nodes in common.
func newRun(t api.Tree, env map[string]api.Term) *run {
	return &run{tree: t, left: api.MaxNodes, env: env, bound: map[string]api.Term{}}
}

// nodeAt tells a node of kind 0, which is none, where a tree has no such place.
func nodeAt(t api.Tree, n int) api.Node {
	if n < 0 || n >= len(t.Nodes) {
		return api.Node{}
	}
	return t.Nodes[n]
}

// visit tells the node at a place to which the call comes.
func (r *run) visit(n int) api.Node {
	if r.left == 0 {
		return api.Node{}
	}
	r.left--
	return nodeAt(r.tree, n)
}

// head tells the patterns of a clause, and the place of its guard.
func (r *run) head(n int) (patterns []int, guard int) {
	node := r.visit(n)
	last := len(node.L) - 2 // behind the guard stands the body
	if node.Kind != api.NClause || last < 0 {
		return nil, noNode
	}
	return node.L[:last], node.L[last]
}

func (r *run) value(name string) (api.Term, bool) {
	if x, is := r.bound[name]; is {
		return x, true
	}
	x, is := r.env[name]
	return x, is
}

// bindings tells all values, as the caller's own. (A term that is not right may have no end, and so no copy.)
func (r *run) bindings() (map[string]api.Term, bool) {
	own := make(map[string]api.Term, len(r.env)+len(r.bound))
	for _, values := range []map[string]api.Term{r.env, r.bound} {
		for name, x := range values {
			if term.Check(x) != api.OK {
				return nil, false
			}
			own[name] = term.Copy(x)
		}
	}
	return own, true
}

// pairs goes through the elements of two rows side by side, from the left, up to the first pair that does not fit; rows that are not as long as each other do not.
func pairs[A, B any](a []A, b []B, fit func(A, B) bool) bool {
	if len(a) != len(b) {
		return false
	}
	for i := range a {
		if !fit(a[i], b[i]) {
			return false
		}
	}
	return true
}

// each goes through elements from the left, and tells what is told of them, up to the first of which nothing is.
func each[A, B any](l []A, tell func(A) (B, bool)) ([]B, bool) {
	out := make([]B, 0, len(l))
	for _, a := range l {
		b, is := tell(a)
		if !is {
			return nil, false
		}
		out = append(out, b)
	}
	return out, true
}
