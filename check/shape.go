package check

import (
	"slices"

	"exitwave/api"
)

// anyExpr stands for each kind that an expression may be of.
const anyExpr = 0

// fits tells whether a tree has the shape of those that Parse tells: a walk over another one might not end, or not find what a node must have.
func fits(t api.Tree) bool {
	if len(t.Nodes) == 0 || len(t.Nodes) > api.MaxNodes || t.Root != len(t.Nodes)-1 {
		return false
	}
	var open []int // the nodes that are no other one's yet
	for n, node := range t.Nodes {
		rest := len(open) - len(node.L)
		if rest < 0 || !slices.Equal(open[rest:], node.L) || !partsFit(t.Nodes, node) {
			return false
		}
		open = append(open[:rest], n)
	}
	return len(open) == 1 && t.Nodes[t.Root].Kind == api.NModule
}

// partsFit tells whether a node has what one of its kind must have; its list is one of places ahead of it.
func partsFit(nodes []api.Node, node api.Node) bool {
	switch node.Kind {
	case api.NInt, api.NFloat, api.NAtom, api.NVar, api.NString, api.NFunName:
		return len(node.L) == 0
	case api.NTuple, api.NList, api.NCall, api.NBody, api.NGuard:
		return areAll(nodes, node.L, anyExpr)
	case api.NCons, api.NApply:
		return len(node.L) > 0 && areAll(nodes, node.L, anyExpr)
	case api.NOp:
		return are(nodes, node.L, anyExpr) || are(nodes, node.L, anyExpr, anyExpr)
	case api.NMatch:
		return are(nodes, node.L, anyExpr, anyExpr)
	case api.NCatch:
		return are(nodes, node.L, anyExpr)
	case api.NCase:
		return are(nodes, node.L, anyExpr, api.NClauses)
	case api.NTry:
		return are(nodes, node.L, api.NBody, api.NClauses, api.NClauses, api.NBody)
	case api.NReceive:
		return are(nodes, node.L, api.NClauses, api.NBody)
	case api.NFun, api.NFunc:
		return are(nodes, node.L, api.NClauses) && len(nodes[node.L[0]].L) > 0
	case api.NClauses:
		return areAll(nodes, node.L, api.NClause)
	case api.NClause:
		return isClause(nodes, node)
	case api.NModule:
		return areAll(nodes, node.L, api.NFunc)
	}
	return false
}

func isClause(nodes []api.Node, node api.Node) bool {
	n := len(node.L) - 2
	return n >= 0 && node.N == int64(n) && areAll(nodes, node.L[:n], anyExpr) && are(nodes, node.L[n:], api.NGuard, api.NBody)
}

// are tells whether the nodes at these places are of these kinds, one for one.
func are(nodes []api.Node, l []int, kinds ...int) bool {
	if len(l) != len(kinds) {
		return false
	}
	for i, n := range l {
		if !isOf(nodes[n].Kind, kinds[i]) {
			return false
		}
	}
	return true
}

// areAll tells whether all of them are of one kind.
func areAll(nodes []api.Node, l []int, kind int) bool {
	for _, n := range l {
		if !isOf(nodes[n].Kind, kind) {
			return false
		}
	}
	return true
}

// isOf: the kinds of expressions are numbered ahead of the others; a begin is a body.
func isOf(kind, want int) bool {
	if want == anyExpr {
		return kind <= api.NBody
	}
	return kind == want
}
