package match

import (
	"exitwave/api"
	"exitwave/term"
)

func (r *run) pattern(n int, x api.Term) bool {
	node := r.visit(n)
	switch node.Kind {
	case api.NVar:
		return r.variable(node.S, x)
	case api.NTuple:
		return x.Kind == api.KTuple && pairs(node.L, x.L, r.pattern)
	case api.NList:
		return x.Kind == api.KList && pairs(node.L, x.L, r.pattern)
	case api.NCons:
		return x.Kind == api.KList && r.cons(node.L, x.L)
	case api.NMatch:
		return pairs(node.L, []api.Term{x, x}, r.pattern)
	}
	own, is := literal(r.tree, node)
	return is && same(own, x)
}

func (r *run) variable(name string, x api.Term) bool {
	if name == "_" {
		return true
	}
	if value, is := r.value(name); is {
		return same(value, x)
	}
	r.bound[name] = x
	return true
}

// cons: the last pattern stands for all elements that those ahead of it leave.
func (r *run) cons(patterns []int, l []api.Term) bool {
	last := len(patterns) - 1
	if last < 0 || len(l) < last {
		return false
	}
	rest := api.Term{Kind: api.KList, L: l[last:]}
	return pairs(patterns[:last], l[:last], r.pattern) && r.pattern(patterns[last], rest)
}

// same: a literal that is no right term, a string that is too long, is identical to none.
func same(a, b api.Term) bool {
	is, e := term.Same(a, b)
	return is && e == api.OK
}
