package gram_test

import (
	"math/rand"
	"slices"
	"strings"
	"testing"
	"unsafe"

	"exitwave/api"
	"exitwave/gram"
)

// someSources: sources that have trees.
func someSources() []string {
	l := []string{"-module(m).", "-module(m). f(X) when X > 0 -> X - 1.", front + "try a of b -> c catch d -> e after g end, receive after 0 -> [], {}, fun h/2, fun () -> 1.5 end end, \"s\"."}
	r := rand.New(rand.NewSource(6030))
	for range 500 {
		tokens, _ := written(r, 80, 5)
		source, _ := joined(tokens, oneBlank)
		l = append(l, source)
	}
	return l
}

// P603: each node but the root is some one node's; it stands ahead of that, and those of one node rise.
func TestP603Trees(t *testing.T) {
	for _, source := range someSources() {
		x := treeOf(t, source)
		owners := make([]int, len(x.Nodes))
		for i, n := range x.Nodes {
			for _, k := range n.L {
				if k < 0 || k >= i {
					t.Fatalf("P601 %s: node %d has %v", said(source), i, n.L)
				}
				owners[k]++
			}
			if !slices.IsSorted(n.L) {
				t.Errorf("P601 %s: node %d has %v", said(source), i, n.L)
			}
		}
		for i, count := range owners {
			if (i == x.Root) != (count == 0) || count > 1 {
				t.Errorf("P603 %s: %d nodes have node %d", said(source), count, i)
			}
		}
	}
}

// Kinds have the fields that the table names, and as many nodes, and no others (P4).
func TestP4Fields(t *testing.T) {
	for _, source := range someSources() {
		for _, n := range treeOf(t, source).Nodes {
			m := api.Node{Kind: n.Kind, L: n.L, At: n.At}
			switch n.Kind {
			case api.NInt, api.NTry, api.NReceive:
				m.N = n.N
			case api.NFloat:
				m.F = n.F
			case api.NAtom, api.NVar, api.NString, api.NOp, api.NCall, api.NModule:
				m.S = n.S
			case api.NFunName, api.NFunc, api.NClause:
				m.S, m.N = n.S, n.N
			}
			least, most := sizes(n)
			if tell(m) != tell(n) || len(n.L) < least || len(n.L) > most {
				t.Errorf("P4 %s: %s", said(source), tell(n))
			}
		}
	}
}

// sizes tells how many nodes a node may have.
func sizes(n api.Node) (least, most int) {
	switch n.Kind {
	case api.NInt, api.NFloat, api.NAtom, api.NVar, api.NString, api.NFunName:
		return 0, 0
	case api.NFun, api.NFunc, api.NCatch:
		return 1, 1
	case api.NMatch, api.NCase, api.NReceive:
		return 2, 2
	case api.NOp:
		return 1, 2
	case api.NTry:
		return 4, 4
	case api.NCons:
		return 2, api.MaxNodes
	case api.NApply:
		return 1, api.MaxArity + 1
	case api.NCall:
		return 0, api.MaxArity
	case api.NClause:
		return int(n.N) + 2, int(n.N) + 2
	}
	return 0, api.MaxNodes
}

// within tells whether a text shares memory with another one.
func within(s, whole string) bool {
	if len(s) == 0 || len(whole) == 0 {
		return false
	}
	a, b := uintptr(unsafe.Pointer(unsafe.StringData(s))), uintptr(unsafe.Pointer(unsafe.StringData(whole)))
	return a >= b && a < b+uintptr(len(whole))
}

// P2: an answer shares memory neither with the source nor with another answer, and no two of its lists share any, their spare room included.
func TestP2(t *testing.T) {
	for _, source := range someSources() {
		source = strings.Clone(source)
		before := strings.Clone(source)
		x := treeOf(t, source)
		want := tellAll(x.Nodes)
		again := treeOf(t, source)
		for i, n := range x.Nodes {
			if within(n.S, source) {
				t.Errorf("P2 %s: node %d shares the source's memory", said(source), i)
			}
			for j := len(n.L); j < cap(n.L); j++ {
				n.L[:cap(n.L)][j] = -1
			}
		}
		if !slices.Equal(tellAll(x.Nodes), want) {
			t.Errorf("P2 %s: lists share their spare room", said(source))
		}
		for i := range x.Nodes {
			overwritten(t, source, x.Nodes, i, want)
		}
		for i := range x.Nodes[:cap(x.Nodes)] {
			x.Nodes[:cap(x.Nodes)][i] = api.Node{Kind: -1, S: "over", N: -1, F: -1, At: -1}
		}
		if source != before || !slices.Equal(tellAll(again.Nodes), want) || !sameTree(treeOf(t, source), again) {
			t.Errorf("P2 %s: an answer changes with an earlier one", said(source))
		}
	}
}

// overwritten writes over a node's list, and asks that no other node changes.
func overwritten(t *testing.T, source string, nodes []api.Node, i int, want []string) {
	kept := slices.Clone(nodes[i].L)
	for j := range nodes[i].L {
		nodes[i].L[j] = -1
	}
	for k := max(0, i-20); k < min(len(nodes), i+20); k++ {
		if k != i && tell(nodes[k]) != want[k] {
			t.Errorf("P2 %s: nodes %d and %d share a list", said(source), i, k)
		}
	}
	copy(nodes[i].L, kept)
}

// P3: neither a tree nor a fault changes what is told of another source.
func TestP3(t *testing.T) {
	sources := append(someSources(), "", front+"1 +.", front+strings.Repeat("(", 300), front+"fun f/17.", front+"g("+strings.Repeat("a,", 20)+"a).", "'", padded(0))
	type answer struct {
		x api.Tree
		f api.Fault
	}
	var first []answer
	for _, source := range sources {
		x, f := gram.Parse(source)
		first = append(first, answer{x, f})
	}
	for i := len(sources) - 1; i >= 0; i-- {
		x, f := gram.Parse(sources[i])
		if f != first[i].f || !sameTree(x, first[i].x) {
			t.Errorf("P3 %s: %v; then %v", said(sources[i]), first[i].f, f)
		}
	}
}
