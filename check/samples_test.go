package check_test

import (
	"errors"
	"fmt"
	"slices"
	"strings"
	"testing"

	"exitwave/api"
	"exitwave/check"
	"exitwave/gram"
)

// front stands ahead of the functions that a test is about.
const front = "-module(m). "

// said is what something looks like, the middle left out if it is long.
func said(what any) string {
	s := fmt.Sprintf("%v", what)
	if len(s) > 400 {
		s = s[:200] + " .. " + s[len(s)-200:]
	}
	return strings.ToValidUTF8(s, "?")
}

// faultOf tells the fault of a source, and asks all that must hold of the ways to ask for it.
func faultOf(t *testing.T, source string) api.Fault {
	t.Helper()
	x, f := gram.Parse(source)
	y, err := check.Source(source)
	if f.Err == api.OK {
		f = foundBy(t, source, check.Check(x))
	}
	if g := foundBy(t, source, err); g != f {
		t.Errorf("P701 %s: Source tells %v; want %v", said(source), g, f)
	}
	if f.Err == api.OK && !sameTree(x, y) {
		t.Errorf("P701 %s: Source tells another tree than Parse", said(source))
	}
	if f.Err != api.OK && (len(y.Nodes) != 0 || y.Root != 0) {
		t.Errorf("P4 %s: a tree beside %v", said(source), err)
	}
	return f
}

// foundBy tells the fault of an error; none, if there is no error.
func foundBy(t *testing.T, source string, err error) api.Fault {
	t.Helper()
	if err == nil {
		return api.Fault{}
	}
	var w *check.Wrong
	if !errors.As(err, &w) || w == nil || w.Fault.Err == api.OK {
		t.Errorf("P701 %s: %v is no *Wrong with a fault", said(source), err)
		return api.Fault{}
	}
	if !errors.Is(err, w.Fault.Err) || errors.Is(err, w.Fault.Err+1) || errors.Unwrap(err) != error(w.Fault.Err) {
		t.Errorf("P701 %s: %v does not wrap its number", said(source), err)
	}
	return w.Fault
}

func sameTree(a, b api.Tree) bool {
	return a.Root == b.Root && slices.EqualFunc(a.Nodes, b.Nodes, func(x, y api.Node) bool {
		return x.Kind == y.Kind && x.S == y.S && x.N == y.N && x.F == y.F && x.At == y.At && slices.Equal(x.L, y.L)
	})
}

// expectRight asks that functions are taken.
func expectRight(t *testing.T, functions string) {
	t.Helper()
	if f := faultOf(t, front+functions); f != (api.Fault{}) {
		t.Errorf("P701 %s: %v at %d; want none", said(functions), f.Err, f.At-len(front))
	}
}

// expect asks that functions have a fault at the place of the `^` in them, which is not part of them.
func expect(t *testing.T, e api.Errno, functions string) {
	t.Helper()
	at := strings.Index(functions, "^")
	source := front + functions[:at] + functions[at+1:]
	if f := faultOf(t, source); f != (api.Fault{Err: e, At: len(front) + at}) {
		t.Errorf("P701 %s: %v at %d; want %v", said(functions), f.Err, f.At-len(front), e)
	}
}

// expectBehind asks how X stands behind an expression: v bound, u unsafe, n neither. A use of it and a pattern with it tell.
func expectBehind(t *testing.T, how byte, expr string) {
	t.Helper()
	switch how {
	case 'v':
		expectRight(t, "f(A) -> "+expr+", X.")
		expectRight(t, "f(A) -> "+expr+", X = 7.")
	case 'u':
		expect(t, api.ErrUnsafe, "f(A) -> "+expr+", ^X.")
		expect(t, api.ErrUnsafe, "f(A) -> "+expr+", ^X = 7.")
		expectRight(t, "f(A) -> "+expr+", fun(X) -> X end.")
	case 'n':
		expect(t, api.ErrUnbound, "f(A) -> "+expr+", ^X.")
		expectRight(t, "f(A) -> "+expr+", X = 7, X.")
	}
}

// treeOf asks for the tree of a right source.
func treeOf(t *testing.T, source string) api.Tree {
	t.Helper()
	x, err := check.Source(source)
	if err != nil {
		t.Fatalf("P701 %s: %v", said(source), err)
	}
	return x
}

// places tells those of a kind of nodes.
func places(x api.Tree, kind int) []int {
	var l []int
	for n, node := range x.Nodes {
		if node.Kind == kind {
			l = append(l, n)
		}
	}
	return l
}

// expectFree asks for what the funs of a source take along, one text a fun, by their places: the inner ones first.
func expectFree(t *testing.T, functions string, want ...string) {
	t.Helper()
	x := treeOf(t, front+functions)
	var got []string
	for _, n := range places(x, api.NFun) {
		got = append(got, strings.Join(check.Free(x, n), " "))
	}
	if !slices.Equal(got, want) {
		t.Errorf("P703 %s: %q; want %q", said(functions), got, want)
	}
}
