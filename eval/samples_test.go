package eval_test

import (
	"math"
	"slices"
	"strings"
	"testing"

	"exitwave/api"
	"exitwave/check"
	"exitwave/term"
)

func whole(n int64) api.Term { return api.Term{Kind: api.KInt, N: n} }

func float(f float64) api.Term { return api.Term{Kind: api.KFloat, F: f} }

func atom(s string) api.Term { return api.Term{Kind: api.KAtom, S: s} }

func ref(n int64) api.Term { return api.Term{Kind: api.KRef, N: n} }

func pid(n int64) api.Term { return api.Term{Kind: api.KPid, N: n} }

func fun(n int, l ...api.Term) api.Term { return api.Term{Kind: api.KFun, N: int64(n), L: l} }

func tuple(l ...api.Term) api.Term { return api.Term{Kind: api.KTuple, L: l} }

func list(l ...api.Term) api.Term { return api.Term{Kind: api.KList, L: l} }

// nested is x inside so many more of a kind.
func nested(kind, n int, x api.Term) api.Term {
	for range n {
		x = api.Term{Kind: kind, L: []api.Term{x}}
	}
	return x
}

func times(n int, x api.Term) []api.Term {
	out := make([]api.Term, n)
	for i := range out {
		out[i] = x
	}
	return out
}

// kinds: right terms, some of each kind, with the edges among them.
func kinds() []api.Term {
	return []api.Term{
		whole(0), whole(-1), whole(api.MaxInt), whole(api.MinInt), float(0), float(math.Copysign(0, -1)), float(1.5),
		atom(""), atom("a"), atom("true"), atom(strings.Repeat("\xff", api.MaxAtom)), ref(0), ref(1 << 40), pid(0), pid(1),
		fun(0), fun(api.MaxNodes, whole(1)), tuple(), tuple(whole(1), atom("a")), list(), list(whole(97), list(tuple())),
		nested(api.KTuple, api.MaxDepth-1, list()), list(times(api.MaxWords/2, whole(1))...),
	}
}

// wrong: terms that are not right, one of them without an end.
func wrong() []api.Term {
	ring := tuple(whole(1))
	ring.L[0] = ring
	return []api.Term{
		{}, {Kind: 9}, {Kind: -1}, whole(api.MaxInt + 1), whole(api.MinInt - 1), float(math.NaN()), float(math.Inf(1)), atom(strings.Repeat("a", api.MaxAtom+1)),
		ref(-1), pid(1<<40 + 1), fun(-1), fun(api.MaxNodes + 1), {Kind: api.KInt, S: "a"}, {Kind: api.KAtom, L: list(whole(1)).L}, {Kind: api.KTuple, N: 1},
		list(api.Term{}), fun(0, tuple(api.Term{})), nested(api.KList, api.MaxDepth, list()), tuple(times(api.MaxWords, whole(1))...), ring,
	}
}

// said is what a term looks like, the middle left out if it is long.
func said(x api.Term) string {
	s, e := term.Text(x)
	if e != api.OK {
		s = "a term that is not right: " + e.Error()
	}
	return short(s)
}

func short(s string) string {
	if len(s) > 300 {
		s = s[:150] + " .. " + s[len(s)-150:]
	}
	return s
}

// told is what an event looks like.
func told(x api.Event) string {
	switch x.Kind {
	case api.VSpent:
		return "spent"
	case api.VDone:
		return said(x.Term)
	case api.VRaise:
		return className(x.Class) + " " + said(x.Term)
	case api.VAsk:
		return "ask " + x.S + " " + said(list(x.L...))
	case api.VWait:
		if x.Zero {
			return "wait 0"
		}
		return "wait"
	}
	return "no event"
}

func className(class int) string {
	switch class {
	case api.CError:
		return "error"
	case api.CExit:
		return "exit"
	case api.CThrow:
		return "throw"
	}
	return "no class"
}

// treeOf asks for the tree of a right source.
func treeOf(t *testing.T, functions string) api.Tree {
	t.Helper()
	x, err := check.Source("-module(m). " + functions)
	if err != nil {
		t.Fatalf("%s: %v", short(functions), err)
	}
	return x
}

// places tells where nodes of a kind stand in a tree.
func places(x api.Tree, kind int) []int {
	var l []int
	for n, node := range x.Nodes {
		if node.Kind == kind {
			l = append(l, n)
		}
	}
	return l
}

// alike tells whether two terms are the same, field by field, floats by their bits; no list and an empty one are the same.
func alike(a, b api.Term) bool {
	return a.Kind == b.Kind && a.N == b.N && math.Float64bits(a.F) == math.Float64bits(b.F) && a.S == b.S && slices.EqualFunc(a.L, b.L, alike)
}

// alikeEvents does so of events.
func alikeEvents(a, b api.Event) bool {
	return a.Kind == b.Kind && a.Class == b.Class && a.S == b.S && a.Zero == b.Zero && alike(a.Term, b.Term) && slices.EqualFunc(a.L, b.L, alike)
}
