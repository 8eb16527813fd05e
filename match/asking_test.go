package match_test

import (
	"maps"
	"slices"
	"testing"

	"exitwave/api"
	"exitwave/match"
	"exitwave/term"
)

// The tests call the package through what stands here, which asks what must hold of every call: what is handed in stays as it is (P2), the answer is the caller's own (P2), the same call answers the same (P3), beside a false stands nothing (P4).

// roomy is a term once more, each list of it with spare room behind, in which marks stand.
func roomy(x api.Term) api.Term {
	if x.L == nil {
		return x
	}
	x.L = roomyAll(x.L)
	return x
}

func roomyAll(l []api.Term) []api.Term {
	own := make([]api.Term, 0, len(l)+2)
	for _, x := range l {
		own = append(own, roomy(x))
	}
	return append(own, whole(77), atom("room"))[:len(l)]
}

// roomCopy is a list of terms once more, with what stands in the spare room of it, and of theirs.
func roomCopy(l []api.Term) []api.Term {
	own := slices.Clone(l[:cap(l)])
	for i := range own {
		if own[i].L != nil {
			own[i].L = roomCopy(own[i].L)
		}
	}
	return own
}

func treeCopy(x api.Tree) api.Tree {
	nodes := slices.Clone(x.Nodes[:cap(x.Nodes)])
	for i := range nodes {
		nodes[i].L = slices.Clone(nodes[i].L[:cap(nodes[i].L)])
	}
	return api.Tree{Nodes: nodes, Root: x.Root}
}

func sameTree(a, b api.Tree) bool {
	return a.Root == b.Root && slices.EqualFunc(a.Nodes, b.Nodes, func(x, y api.Node) bool {
		return x.Kind == y.Kind && x.S == y.S && x.N == y.N && x.F == y.F && x.At == y.At && slices.Equal(x.L, y.L)
	})
}

// given is what is handed in to a call, and how it was ahead of it.
type given struct {
	tree, treeWas api.Tree
	l, lWas       []api.Term
	e, eWas       env
}

func handIn(x api.Tree, l []api.Term, e env) *given {
	g := &given{tree: x, treeWas: treeCopy(x), l: roomyAll(l)}
	g.lWas = roomCopy(g.l)
	if e == nil {
		return g
	}
	g.e, g.eWas = env{}, env{}
	for name, x := range e {
		g.e[name] = roomy(x)
		g.eWas[name] = list(roomCopy([]api.Term{g.e[name]})...)
	}
	return g
}

func (g *given) stays(t *testing.T, call string) {
	t.Helper()
	if !sameTree(treeCopy(g.tree), g.treeWas) {
		t.Fatalf("P2 %s: the tree is changed", call)
	}
	if !slices.EqualFunc(roomCopy(g.l), g.lWas, alike) {
		t.Fatalf("P2 %s: the terms are changed", call)
	}
	now := env{}
	for name, x := range g.e {
		now[name] = list(roomCopy([]api.Term{x})...)
	}
	if !maps.EqualFunc(now, g.eWas, alike) {
		t.Fatalf("P2 %s: the variables are changed", call)
	}
}

// listsOf tells all lists of terms, each with its spare room, behind out.
func listsOf(out [][]api.Term, l []api.Term) [][]api.Term {
	if cap(l) > 0 {
		out = append(out, l[:cap(l)])
	}
	for _, x := range l {
		out = listsOf(out, x.L)
	}
	return out
}

// overwrite writes over an answer, and fails, if two lists of it share memory.
func overwrite(t *testing.T, call string, answer []api.Term) {
	t.Helper()
	all := listsOf(nil, answer)
	for i, l := range all {
		for k := range l {
			l[k] = api.Term{Kind: -5, N: int64(i), F: float64(k)}
		}
	}
	for i, l := range all {
		for k := range l {
			if l[k].Kind != -5 || l[k].N != int64(i) || l[k].F != float64(k) {
				t.Fatalf("P2 %s: two lists of the answer share memory", call)
			}
		}
	}
}

func sameEnv(a, b env) bool { return maps.EqualFunc(a, b, alike) }

// envCopy has memory of its own.
func envCopy(e env) env {
	own := env{}
	for name, x := range e {
		own[name] = term.Copy(x)
	}
	return own
}

// asked asks of a call that tells bindings; the call is made anew each time.
func asked(t *testing.T, call string, g *given, make func() (env, bool)) (env, bool) {
	t.Helper()
	first, is := make()
	g.stays(t, call)
	if !is {
		if first != nil {
			t.Fatalf("P4 %s: %s beside a false", call, saidEnv(first))
		}
		if _, again := make(); again {
			t.Fatalf("P3 %s: no, then yes", call)
		}
		return nil, false
	}
	if first == nil {
		t.Fatalf("P2 %s: no map to write in", call)
	}
	want := envCopy(first)
	overwrite(t, call, slices.Collect(maps.Values(first)))
	clear(first)
	first["Other"] = whole(1)
	g.stays(t, call)
	again, is := make()
	if !is || !sameEnv(again, want) {
		t.Fatalf("P3 %s: %s, then %v %s", call, saidEnv(want), is, saidEnv(again))
	}
	return again, true
}

func askPattern(t *testing.T, x api.Tree, n int, v api.Term, e env) (env, bool) {
	t.Helper()
	g := handIn(x, []api.Term{v}, e)
	return asked(t, "Pattern", g, func() (env, bool) { return match.Pattern(g.tree, n, g.l[0], g.e) })
}

func askClause(t *testing.T, x api.Tree, n int, l []api.Term, e env) (env, bool) {
	t.Helper()
	g := handIn(x, l, e)
	return asked(t, "Clause", g, func() (env, bool) { return match.Clause(g.tree, n, g.l, g.e, 1) })
}

func askGuard(t *testing.T, x api.Tree, n int, e env) bool {
	t.Helper()
	g := handIn(x, nil, e)
	is := match.Guard(g.tree, n, g.e, 1)
	for _, self := range []int{1, 0, -1, 7, 1 << 40} { // no builtin of a guard asks the process
		if match.Guard(g.tree, n, g.e, self) != is {
			t.Fatalf("P3 Guard: %v, then not, of process %d", is, self)
		}
	}
	g.stays(t, "Guard")
	return is
}

func askLiteral(t *testing.T, x api.Tree, n int) (api.Term, bool) {
	t.Helper()
	g := handIn(x, nil, nil)
	first, is := match.Literal(x, n)
	g.stays(t, "Literal")
	if !is && !alike(first, api.Term{}) {
		t.Fatalf("P4 Literal: %v beside a false", first)
	}
	want := term.Copy(first)
	overwrite(t, "Literal", []api.Term{first})
	g.stays(t, "Literal")
	if again, still := match.Literal(x, n); still != is || !alike(again, want) {
		t.Fatalf("P3 Literal: %v, then %v", want, again)
	}
	return want, is
}

// expectPattern asks what a pattern binds, written as saidEnv does; "no", if it does not match.
func expectPattern(t *testing.T, pattern string, v api.Term, e env, want string) {
	t.Helper()
	x, n := patternOf(t, pattern)
	got := "no"
	if bound, is := askPattern(t, x, n, v, e); is {
		got = saidEnv(bound)
	}
	if got != want {
		t.Errorf("P802 %s and %s, with %s: %s; want %s", said(pattern), said(v), said(saidEnv(e)), said(got), said(want))
	}
}

// expectClause does so of the clause of a function with that head.
func expectClause(t *testing.T, head string, l []api.Term, e env, want string) {
	t.Helper()
	x, n := clauseOf(t, head)
	got := "no"
	if bound, is := askClause(t, x, n, l, e); is {
		got = saidEnv(bound)
	}
	if got != want {
		t.Errorf("P804 f%s and %s, with %s: %s; want %s", said(head), said(list(l...)), saidEnv(e), got, want)
	}
}

func expectGuard(t *testing.T, guard string, e env, want bool) {
	t.Helper()
	x, n := guardOf(t, guard, "")
	if got := askGuard(t, x, n, e); got != want {
		t.Errorf("P803 %s, with %s: %v; want %v", said(guard), said(saidEnv(e)), got, want)
	}
}

// withWant is e and Want.
func withWant(e env, want api.Term) env {
	own := maps.Clone(e)
	if own == nil {
		own = env{}
	}
	own["Want"] = want
	return own
}

// expectValue asks for the value of an expression in a guard.
func expectValue(t *testing.T, expr string, e env, want api.Term) {
	t.Helper()
	expectGuard(t, "("+expr+") =:= Want", withWant(e, want), true)
	expectGuard(t, "("+expr+") =/= Want", withWant(e, want), false)
	expectGuard(t, expr, e, alike(want, atom("true")))
}

// expectRaise asks that an expression in a guard raises; whatever it told, the first part of the orelse would be a boolean.
func expectRaise(t *testing.T, expr string, e env) {
	t.Helper()
	expectGuard(t, "is_atom("+expr+") orelse true", e, false)
	expectGuard(t, "true orelse ("+expr+")", e, true)
	expectGuard(t, expr, e, false)
}
