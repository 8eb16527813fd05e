package match

import (
	"exitwave/api"
	"exitwave/bif"
	"exitwave/check"
	"exitwave/term"
)

func (r *run) guard(n int) bool {
	node := r.visit(n)
	if node.Kind != api.NGuard {
		return false
	}
	for _, test := range node.L {
		if x, is := r.reckon(test); !is || !isAtom(x, "true") {
			return false
		}
	}
	return true
}

// reckon tells the value of an expression of a guard; false, if it raises: what it raises nobody asks.
func (r *run) reckon(n int) (api.Term, bool) {
	node := r.visit(n)
	if x, is := literal(r.tree, node); is {
		return ifRight(x)
	}
	switch node.Kind {
	case api.NVar:
		return r.value(node.S)
	case api.NTuple:
		return r.made(api.KTuple, node.L)
	case api.NList:
		return r.made(api.KList, node.L)
	case api.NCons:
		return r.consed(node.L)
	case api.NOp:
		return r.operation(node)
	case api.NCall:
		return r.call(node)
	}
	return api.Term{}, false
}

func (r *run) made(kind int, parts []int) (api.Term, bool) {
	l, is := each(parts, r.reckon)
	if !is {
		return api.Term{}, false
	}
	return ifRight(api.Term{Kind: kind, L: l})
}

// consed: what stands ahead, and the list behind it; of what is no list ++ tells nothing.
func (r *run) consed(parts []int) (api.Term, bool) {
	l, is := each(parts, r.reckon)
	if !is || len(l) == 0 {
		return api.Term{}, false
	}
	last := len(l) - 1
	ahead := api.Term{Kind: api.KList, L: l[:last]}
	return told(bif.Op("++", []api.Term{ahead, l[last]}))
}

func (r *run) operation(node api.Node) (api.Term, bool) {
	if node.S == "andalso" || node.S == "orelse" {
		return r.either(node)
	}
	l, is := each(node.L, r.reckon)
	if !is {
		return api.Term{}, false
	}
	return told(bif.Op(node.S, l))
}

// either looks at the second part only where the first one does not say all.
func (r *run) either(node api.Node) (api.Term, bool) {
	if len(node.L) != 2 {
		return api.Term{}, false
	}
	first, is := r.reckon(node.L[0])
	if !is || !isBoolean(first) {
		return api.Term{}, false
	}
	if isAtom(first, "true") == (node.S == "orelse") {
		return first, true
	}
	return r.reckon(node.L[1])
}

func (r *run) call(node api.Node) (api.Term, bool) {
	l, is := each(node.L, r.reckon)
	if !is {
		return api.Term{}, false
	}
	return told(bif.Call(node.S, l, r.arity))
}

// arity tells how many arguments a fun takes. One that is no fun of the tree takes no number of them, not even 0.
func (r *run) arity(fun api.Term) int {
	node := nodeAt(r.tree, int(fun.N))
	switch {
	case node.Kind == api.NFunName && len(fun.L) == 0:
		return int(node.N)
	case node.Kind == api.NFun && len(fun.L) == len(check.Free(r.tree, int(fun.N))):
		return int(r.first(r.first(node)).N)
	}
	return -1
}

func (r *run) first(node api.Node) api.Node {
	if len(node.L) == 0 {
		return api.Node{}
	}
	return nodeAt(r.tree, node.L[0])
}

func ifRight(x api.Term) (api.Term, bool) {
	if term.Check(x) != api.OK {
		return api.Term{}, false
	}
	return x, true
}

func isBoolean(x api.Term) bool { return isAtom(x, "true") || isAtom(x, "false") }

func isAtom(x api.Term, s string) bool { return x.Kind == api.KAtom && x.S == s }
