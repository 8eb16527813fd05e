package gram_test

import (
	"fmt"
	"math"
	"slices"
	"strings"
	"testing"

	"exitwave/api"
	"exitwave/gram"
)

// kindNames: by their numbers, as api tells them.
var kindNames = []string{"", "Int", "Float", "Atom", "Var", "String", "Tuple", "List", "Cons", "Op", "Match", "Call", "Apply", "Fun", "FunName", "Case", "Try", "Catch", "Receive", "Body", "Clauses", "Clause", "Guard", "Func", "Module"}

// front stands ahead of a body that a test is about; it has one node, the guard.
const front = "-module(m). f() -> "

// tell writes a node: its kind, and those of its fields that are not zero; S behind `:`, N behind `#`, F's bits behind `~`, At behind `@`.
func tell(n api.Node) string {
	s := "?"
	if n.Kind > 0 && n.Kind < len(kindNames) {
		s = kindNames[n.Kind]
	}
	if n.S != "" {
		s += ":" + n.S
	}
	if n.N != 0 {
		s += fmt.Sprintf("#%d", n.N)
	}
	if bits := math.Float64bits(n.F); bits != 0 {
		s += fmt.Sprintf("~%x", bits)
	}
	if len(n.L) > 0 {
		s += fmt.Sprint(n.L)
	}
	return s + fmt.Sprintf("@%d", n.At)
}

func tellAll(nodes []api.Node) []string {
	var l []string
	for _, n := range nodes {
		l = append(l, tell(n))
	}
	return l
}

// said is what something looks like, the middle left out if it is long.
func said(what any) string {
	s := fmt.Sprintf("%+v", what)
	if text, is := what.(string); is {
		s = fmt.Sprintf("%q", text)
	}
	if len(s) > 400 {
		s = s[:200] + " .. " + s[len(s)-200:]
	}
	return strings.ToValidUTF8(s, "?")
}

// treeOf asks for a tree, and for no fault.
func treeOf(t *testing.T, source string) api.Tree {
	t.Helper()
	x, f := gram.Parse(source)
	if f != (api.Fault{}) || len(x.Nodes) == 0 || x.Root != len(x.Nodes)-1 {
		t.Errorf("P601 %s: %v, %d nodes, root %d", said(source), f, len(x.Nodes), x.Root)
		return api.Tree{Nodes: []api.Node{{}}}
	}
	return x
}

// expectNodes asks for a tree of these nodes.
func expectNodes(t *testing.T, source string, want ...string) {
	t.Helper()
	if got := tellAll(treeOf(t, source).Nodes); !slices.Equal(got, want) {
		t.Errorf("P601 %s: %s; want %s", said(source), said(got), said(want))
	}
}

// moved: a node as it stands behind one other, in a source that has at bytes more ahead of it.
func moved(n api.Node, by, at int) api.Node {
	n.L = slices.Clone(n.L)
	for i := range n.L {
		n.L[i] += by
	}
	n.At += at
	return n
}

// expectBody asks for the nodes of a function's body of one expression: places and At count from its own beginning.
func expectBody(t *testing.T, expr string, want ...string) {
	t.Helper()
	x := treeOf(t, front+expr+".")
	var got []string
	for _, n := range x.Nodes {
		got = append(got, tell(moved(n, -1, -len(front))))
	}
	n := len(want)
	whole := append([]string{"Guard@-3"}, want...)
	whole = append(whole, fmt.Sprintf("Body[%d]@0", n-1), fmt.Sprintf("Clause:f[-1 %d]@-7", n), fmt.Sprintf("Clauses[%d]@-7", n+1), fmt.Sprintf("Func:f[%d]@-7", n+2), fmt.Sprintf("Module:m[%d]@-19", n+3))
	if !slices.Equal(got, whole) {
		t.Errorf("P601 %s: %s; want %s", said(expr), said(got), said(whole))
	}
}

// expectFault asks for a fault, and for no tree beside it (P4).
func expectFault(t *testing.T, source string, e api.Errno, at int) {
	t.Helper()
	x, f := gram.Parse(source)
	if f != (api.Fault{Err: e, At: at}) || len(x.Nodes) != 0 || x.Root != 0 {
		t.Errorf("P601 %s: %v at %d, %d nodes, root %d; want %v at %d", said(source), f.Err, f.At, len(x.Nodes), x.Root, e, at)
	}
}

// expectMarked asks for a fault at the place of the `^` in a source, which is not part of it.
func expectMarked(t *testing.T, e api.Errno, source string) {
	t.Helper()
	at := strings.Index(source, "^")
	expectFault(t, source[:at]+source[at+1:], e, at)
}

// expectMarkedBody: likewise, in a function's body.
func expectMarkedBody(t *testing.T, e api.Errno, body string) {
	t.Helper()
	expectMarked(t, e, front+body)
}

// sameTree tells whether two trees are the same, At and all.
func sameTree(a, b api.Tree) bool {
	return a.Root == b.Root && slices.Equal(tellAll(a.Nodes), tellAll(b.Nodes))
}
