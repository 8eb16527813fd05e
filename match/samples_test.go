package match_test

import (
	"fmt"
	"math"
	"slices"
	"strings"
	"testing"

	"exitwave/api"
	"exitwave/check"
	"exitwave/term"
)

var minus = math.Copysign(0, -1)

type env = map[string]api.Term

func whole(n int64) api.Term { return api.Term{Kind: api.KInt, N: n} }

func float(f float64) api.Term { return api.Term{Kind: api.KFloat, F: f} }

func atom(s string) api.Term { return api.Term{Kind: api.KAtom, S: s} }

func ref(n int64) api.Term { return api.Term{Kind: api.KRef, N: n} }

func pid(n int64) api.Term { return api.Term{Kind: api.KPid, N: n} }

func fun(n int64, l ...api.Term) api.Term { return api.Term{Kind: api.KFun, N: n, L: l} }

func tuple(l ...api.Term) api.Term { return api.Term{Kind: api.KTuple, L: l} }

func list(l ...api.Term) api.Term { return api.Term{Kind: api.KList, L: l} }

func text(s string) api.Term {
	var l []api.Term
	for i := range len(s) {
		l = append(l, whole(int64(s[i])))
	}
	return list(l...)
}

func truth(is bool) api.Term { return atom(fmt.Sprint(is)) }

// nested is x inside so many more of a kind.
func nested(kind, n int, x api.Term) api.Term {
	for range n {
		x = api.Term{Kind: kind, L: []api.Term{x}}
	}
	return x
}

func times(n int, x api.Term) []api.Term {
	out := make([]api.Term, n)
	for i := range out {
		out[i] = x
	}
	return out
}

// kinds: right terms, some of each kind, with the edges among them; no two are identical.
func kinds() []api.Term {
	return []api.Term{
		whole(0), whole(1), whole(-1), whole(97), whole(api.MaxInt), whole(-api.MaxInt), whole(api.MinInt),
		float(0), float(minus), float(1), float(-1), float(97), float(1.5), float(-1.5), float(0x1p59), float(-0x1p59),
		atom(""), atom("a"), atom("b"), atom("true"), atom("false"), atom("_"), atom("X"), atom(strings.Repeat("\xff", api.MaxAtom)),
		ref(0), ref(1), pid(0), pid(1), fun(0), fun(1), fun(1, whole(1)), fun(1, float(1)),
		tuple(), tuple(whole(1)), tuple(float(1)), tuple(atom("a"), whole(1)), tuple(whole(1), whole(2), whole(1)), tuple(tuple()), tuple(list()),
		list(), list(whole(1)), list(float(1)), list(whole(97)), list(whole(97), whole(98)), list(float(97), whole(98)), list(atom("a")), list(list()), list(whole(1), whole(2)), list(whole(1), whole(2), whole(3)),
	}
}

// said is what something looks like, the middle left out if it is long.
func said(what any) string {
	s := fmt.Sprintf("%v", what)
	if x, is := what.(api.Term); is {
		if s, _ = term.Text(x); s == "" {
			s = "a term that is not right"
		}
	}
	if len(s) > 300 {
		s = s[:150] + " .. " + s[len(s)-150:]
	}
	return strings.ToValidUTF8(s, "?")
}

// saidEnv writes the values of variables, by their names.
func saidEnv(e env) string {
	var l []string
	for name, x := range e {
		s, errno := term.Text(x)
		if errno != api.OK {
			s = "(" + errno.Error() + ")"
		}
		l = append(l, name+" "+s)
	}
	slices.Sort(l)
	return strings.Join(l, "; ")
}

// treeOf asks for the tree of a right source.
func treeOf(t *testing.T, functions string) api.Tree {
	t.Helper()
	x, err := check.Source("-module(m). " + functions)
	if err != nil {
		t.Fatalf("%s: %v", said(functions), err)
	}
	return x
}

// clauseOf tells the tree of a source whose first function is f with that head, and the place of its first clause.
func clauseOf(t *testing.T, head string) (api.Tree, int) {
	t.Helper()
	x := treeOf(t, "f"+head+" -> 1.")
	return x, x.Nodes[x.Nodes[x.Nodes[x.Root].L[0]].L[0]].L[0]
}

// patternOf tells a tree, and the place of a pattern in it.
func patternOf(t *testing.T, pattern string) (api.Tree, int) {
	t.Helper()
	x, n := clauseOf(t, "("+pattern+")")
	return x, x.Nodes[n].L[0]
}

// guardOf tells a tree, and the place of a guard in it, whose variables may be those of the list; more: functions of the module.
func guardOf(t *testing.T, guard, more string) (api.Tree, int) {
	t.Helper()
	when := " when " + guard
	if guard == "" {
		when = ""
	}
	x := treeOf(t, "f(A, B, C, D, F, L, T, X, Y, Want)"+when+" -> 1. "+more)
	clause := x.Nodes[x.Nodes[x.Nodes[x.Nodes[x.Root].L[0]].L[0]].L[0]]
	return x, clause.L[len(clause.L)-2]
}

// alike tells whether two answers are the same, field by field, floats by their bits; no list and an empty one are the same.
func alike(a, b api.Term) bool {
	return a.Kind == b.Kind && a.N == b.N && math.Float64bits(a.F) == math.Float64bits(b.F) && a.S == b.S && slices.EqualFunc(a.L, b.L, alike)
}
