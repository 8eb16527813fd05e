package match

import (
	"slices"

	"exitwave/api"
	"exitwave/check"
	"exitwave/term"
)

func (r *run) guard(n int) bool {
	node := r.visit(n)
	if node.Kind != api.NGuard {
		return false
	}
	for _, test := range node.L {
		if x, is := r.reckon(test); !is || !isAtom(x, "true") {
			return false
		}
	}
	return true
}

// reckon tells the value of an expression of a guard; false, if it raises: what it raises nobody asks.
func (r *run) reckon(n int) (api.Term, bool) {
	node := r.visit(n)
	if x, is := literal(r.tree, node); is {
		return ifRight(x)
	}
	switch node.Kind {
	case api.NVar:
		return r.value(node.S)
	case api.NTuple:
		return r.made(api.KTuple, node.L)
	case api.NList:
		return r.made(api.KList, node.L)
	case api.NCons:
		return r.consed(node.L)
	case api.NOp:
		return r.operation(node)
	case api.NCall:
		return r.call(node)
	}
	return api.Term{}, false
}

func (r *run) made(kind int, parts []int) (api.Term, bool) {
	l, is := each(parts, r.reckon)
	if !is {
		return api.Term{}, false
	}
	return ifRight(api.Term{Kind: kind, L: l})
}

func (r *run) consed(parts []int) (api.Term, bool) {
	l, is := each(parts, r.reckon)
	if !is || len(l) == 0 {
		return api.Term{}, false
	}
	last := len(l) - 1
	return joined(api.Term{Kind: api.KList, L: l[:last]}, l[last])
}

func (r *run) operation(node api.Node) (api.Term, bool) {
	if node.S == "andalso" || node.S == "orelse" {
		return r.either(node)
	}
	l, is := each(node.L, r.reckon)
	if !is {
		return api.Term{}, false
	}
	switch len(l) {
	case 1:
		return opOfOne(node.S, l[0])
	case 2:
		return opOfTwo(node.S, l[0], l[1])
	}
	return api.Term{}, false
}

// either looks at the second part only where the first one does not say all.
func (r *run) either(node api.Node) (api.Term, bool) {
	if len(node.L) != 2 {
		return api.Term{}, false
	}
	first, is := r.reckon(node.L[0])
	if !is || !isBoolean(first) {
		return api.Term{}, false
	}
	if isAtom(first, "true") == (node.S == "orelse") {
		return first, true
	}
	return r.reckon(node.L[1])
}

func (r *run) call(node api.Node) (api.Term, bool) {
	l, is := each(node.L, r.reckon)
	if !is {
		return api.Term{}, false
	}
	switch len(l) {
	case 1:
		return builtinOfOne(node.S, l[0])
	case 2:
		if node.S == "is_function" {
			return r.isFunction(l[0], l[1])
		}
		return builtinOfTwo(node.S, l[0], l[1])
	}
	return api.Term{}, false
}

func (r *run) isFunction(fun, n api.Term) (api.Term, bool) {
	if n.Kind != api.KInt || n.N < 0 {
		return api.Term{}, false
	}
	return boolean(fun.Kind == api.KFun && r.takes(fun, n.N)), true
}

// takes tells whether a fun takes n arguments. One that is no fun of the tree takes no number of them, not even 0.
func (r *run) takes(fun api.Term, n int64) bool {
	node := nodeAt(r.tree, int(fun.N))
	switch node.Kind {
	case api.NFunName:
		return node.N == n && len(fun.L) == 0
	case api.NFun:
		clause := r.first(r.first(node))
		return clause.N == n && len(check.Free(r.tree, int(fun.N))) == len(fun.L)
	}
	return false
}

func (r *run) first(node api.Node) api.Node {
	if len(node.L) == 0 {
		return api.Node{}
	}
	return nodeAt(r.tree, node.L[0])
}

// joined tells a list and another one behind it.
func joined(a, b api.Term) (api.Term, bool) {
	if a.Kind != api.KList || b.Kind != api.KList {
		return api.Term{}, false
	}
	return ifRight(api.Term{Kind: api.KList, L: slices.Concat(a.L, b.L)})
}

func ifRight(x api.Term) (api.Term, bool) {
	if term.Check(x) != api.OK {
		return api.Term{}, false
	}
	return x, true
}
