package match_test

import (
	"math"
	"math/rand"
	"slices"
	"strings"
	"testing"

	"exitwave/api"
	"exitwave/check"
	"exitwave/match"
	"exitwave/term"
)

// ring is a list that is an element of itself.
func ring(kind int) api.Term {
	l := make([]api.Term, 1)
	l[0] = api.Term{Kind: kind, L: l}
	return l[0]
}

// wrongs: terms that are not right; some have no end.
func wrongs() []api.Term {
	one := []api.Term{whole(1)}
	return []api.Term{
		{}, {Kind: -1}, {Kind: 9, L: one}, {Kind: math.MaxInt}, whole(api.MaxInt + 1), whole(math.MinInt64), float(math.NaN()), float(math.Inf(1)),
		atom(strings.Repeat("a", api.MaxAtom+1)), {Kind: api.KAtom, S: "true", N: 1}, ref(-1), pid(1<<40 + 1), fun(-1), fun(math.MaxInt64), fun(math.MinInt64, one...), fun(api.MaxNodes + 1),
		{Kind: api.KInt, N: 1, L: one}, {Kind: api.KList, N: 1, L: one}, {Kind: api.KTuple, S: "a", L: one}, {Kind: api.KList, F: minus},
		list(api.Term{}), tuple(float(math.NaN()), whole(1)), list(whole(1), api.Term{Kind: 12}),
		nested(api.KList, api.MaxDepth, whole(1)), nested(api.KTuple, 40000, whole(1)), list(times(api.MaxWords, whole(1))...),
		ring(api.KList), ring(api.KTuple), ring(api.KFun), ring(api.KInt), list(ring(api.KList)), tuple(whole(1), ring(api.KTuple)),
	}
}

// tried makes all calls of a place of a tree: each must end, none may panic, beside a false stands nothing.
func tried(t *testing.T, x api.Tree, n int, l []api.Term, e env) {
	t.Helper()
	v := whole(1)
	if len(l) > 0 {
		v = l[0]
	}
	if bound, is := match.Pattern(x, n, v, e); !is && bound != nil {
		t.Fatalf("P4 Pattern: %v beside a false", bound)
	}
	if bound, is := match.Clause(x, n, l, e, -1); !is && bound != nil {
		t.Fatalf("P4 Clause: %v beside a false", bound)
	}
	if y, is := match.Literal(x, n); !is && !alike(y, api.Term{}) {
		t.Fatalf("P4 Literal: %v beside a false", y)
	}
	match.Guard(x, n, e, math.MinInt)
}

func TestP1Places(t *testing.T) {
	x := treeOf(t, full)
	for _, n := range []int{-1, math.MinInt, len(x.Nodes), len(x.Nodes) + 1, math.MaxInt} {
		tried(t, x, n, []api.Term{whole(1)}, env{"X": whole(1)})
		tried(t, x, n, nil, nil)
		if _, is := match.Pattern(x, n, whole(0), nil); is {
			t.Errorf("P9 Pattern at %d", n)
		}
		if _, is := match.Clause(x, n, nil, nil, 1); is {
			t.Errorf("P9 Clause at %d", n)
		}
		if match.Guard(x, n, nil, 1) {
			t.Errorf("P9 Guard at %d", n)
		}
		if _, is := match.Literal(x, n); is {
			t.Errorf("P801 Literal at %d", n)
		}
	}
	for _, n := range []int{-1, 0, 1} {
		tried(t, api.Tree{}, n, nil, nil)
		tried(t, api.Tree{Root: 7}, n, []api.Term{list()}, env{})
	}
}

// A node of another kind than a call speaks of has no pattern, no guard, no clause.
func TestP8OtherNodes(t *testing.T) {
	x := treeOf(t, full)
	e := env{"X": atom("true"), "Y": whole(1)}
	for n, node := range x.Nodes {
		for _, v := range kinds() {
			_, is := askPattern(t, x, n, v, e)
			switch node.Kind {
			case api.NInt, api.NFloat, api.NAtom, api.NVar, api.NString, api.NTuple, api.NList, api.NCons, api.NOp, api.NMatch:
			default:
				if is {
					t.Errorf("P802 node %d of kind %d matches %s", n, node.Kind, said(v))
				}
			}
		}
		for count := range 4 {
			if _, is := askClause(t, x, n, times(count, whole(1)), e); is && node.Kind != api.NClause {
				t.Errorf("P804 node %d of kind %d is a clause", n, node.Kind)
			}
		}
		if askGuard(t, x, n, e) && node.Kind != api.NGuard {
			t.Errorf("P803 node %d of kind %d is a guard", n, node.Kind)
		}
	}
}

// Terms that are not right, handed in as a term, within one, as a value of a variable.
func TestP1WrongTerms(t *testing.T) {
	heads := []string{"(X)", "(_)", "({X, Y})", "([X | T])", "(X = [_ | T])", "([[X]])", "(1)", "(1.5)", "(a)", `("a")`, "(-1)", "([])", "({})",
		"(X) when X", "(X) when X == Z", "(X) when {X} == [X]", "(X) when [1 | X] =:= X", "(X) when hd(X) == tl(X)", "(X) when X ++ X == X", "(X) when length(X) > 1", "(X) when tuple_size(X) > 1",
		"(X) when is_function(X, 0)", "(X) when is_function(Z, X)", "(X) when element(X, X)", "(X) when max(X, X) == min(Z, X)", "(X) when -X == abs(X)", "(X) when X + 1 > X", "(X) when not X", "(X) when X andalso X", "(X) when round(X) == 1", "(X) when [X, X] == 1"}
	for _, head := range heads {
		x, n := clauseOf(t, strings.Replace(head, "(", "(Z, ", 1))
		for _, v := range wrongs() {
			for _, w := range []api.Term{v, tuple(v, v), list(v), list(whole(1), v), whole(1)} {
				for _, z := range []api.Term{v, whole(1), list()} {
					tried(t, x, n, []api.Term{z, w}, nil)
					tried(t, x, n, []api.Term{z, w}, env{"Z": v})
					tried(t, x, n, []api.Term{whole(1), w}, env{"Q": v})
					tried(t, x, x.Nodes[n].L[1], []api.Term{w}, env{"X": z, "Z": v})
					tried(t, x, x.Nodes[n].L[2], []api.Term{w}, env{"X": w, "Z": z})
				}
			}
		}
	}
}

// What is handed in wrong stays as it is, too.
func TestP2WrongTerms(t *testing.T) {
	x, n := clauseOf(t, "(X, [Y | T], {X}) when X > Y")
	for _, v := range wrongs() {
		if term.Check(v) == api.ErrLimit {
			continue // what has no end can't be copied to be held against
		}
		askClause(t, x, n, []api.Term{v, list(v, v), tuple(v)}, env{"Z": v})
		askPattern(t, x, x.Nodes[n].L[1], list(v, v), env{"Y": v})
		askGuard(t, x, x.Nodes[n].L[3], env{"X": v, "Y": v})
	}
}

// Nodes that have themselves, or the same ones again and again, or such as are not there.
func TestP1Rings(t *testing.T) {
	for _, kind := range []int{api.NTuple, api.NList, api.NCons, api.NMatch, api.NOp, api.NCall, api.NGuard, api.NClause, api.NFun} {
		for _, s := range []string{"", "-", "not", "andalso", "orelse", "+", "hd", "max", "is_function"} {
			for _, l := range [][]int{nil, {0}, {0, 0}, {0, 0, 0}, {-1}, {1}, {-1, 5}, {math.MaxInt, math.MinInt}} {
				x := api.Tree{Nodes: []api.Node{{Kind: kind, S: s, L: l}}}
				for _, v := range []api.Term{ring(api.KTuple), ring(api.KList), list(), whole(1), fun(0)} {
					tried(t, x, 0, []api.Term{v}, env{"X": v})
					tried(t, x, 0, nil, nil)
				}
			}
		}
	}
}

// double is a tree in which each node has the one ahead of it twice.
func double(kind int, s string, leaf api.Node, count int) api.Tree {
	nodes := []api.Node{leaf}
	for i := range count {
		nodes = append(nodes, api.Node{Kind: kind, S: s, L: []int{i, i}})
	}
	nodes = append(nodes, api.Node{Kind: api.NGuard, L: []int{count}})
	nodes = append(nodes, api.Node{Kind: api.NBody}, api.Node{Kind: api.NClause, N: 1, L: []int{count, count + 1, count + 2}})
	return api.Tree{Nodes: nodes, Root: count + 3}
}

func TestP1Shared(t *testing.T) {
	for _, count := range []int{1, 10, 100, 1 << 14, 1 << 16} {
		for _, leaf := range []api.Node{{Kind: api.NVar, S: "X"}, {Kind: api.NVar, S: "_"}, {Kind: api.NInt, N: 1}, {Kind: api.NAtom, S: "true"}, {Kind: api.NString}} {
			for _, c := range []struct {
				kind int
				s    string
			}{{api.NMatch, ""}, {api.NTuple, ""}, {api.NList, ""}, {api.NCons, ""}, {api.NOp, "+"}, {api.NOp, "andalso"}, {api.NOp, "orelse"}, {api.NOp, "++"}, {api.NOp, "=:="}, {api.NCall, "max"}} {
				x := double(c.kind, c.s, leaf, count)
				for _, v := range []api.Term{whole(1), list(), ring(api.KTuple), ring(api.KList)} {
					tried(t, x, count, []api.Term{v}, nil)
					tried(t, x, count+1, []api.Term{v}, env{"X": v})
					tried(t, x, count+3, []api.Term{v}, nil)
				}
			}
		}
	}
}

// Funs whose nodes are odd.
func TestP1OddFuns(t *testing.T) {
	x, n := guardOf(t, "is_function(X, 0), is_function(X, 1)", "g(A) -> fun() -> A end, fun g/1.")
	for place := range x.Nodes {
		for kind := range 26 {
			for _, l := range [][]int{nil, {-1}, {0}, {place}, {len(x.Nodes)}, {len(x.Nodes) - 1, 3}} {
				y := treeCopy(x)
				y.Nodes[place].Kind = kind
				y.Nodes[place].L = l
				for at := -1; at <= len(x.Nodes); at += 3 {
					match.Guard(y, n, env{"X": fun(int64(at), whole(1))}, 1)
				}
				match.Guard(y, n, env{"X": fun(int64(place))}, 1)
			}
		}
	}
}

// Trees in which one thing or another was changed by chance.
func TestP1Changed(t *testing.T) {
	r := rand.New(rand.NewSource(108))
	for range rounds {
		s := someShapes(r, 2, 2)
		w := &writer{r: r, e: env{"A": someTerm(r, 1), "B": someTerm(r, 1), "C": someTerm(r, 1), "D": someTerm(r, 1)}}
		parsed := treeOf(t, "f(A, B, C, D, "+s[0].String()+", "+s[1].String()+") when "+w.expr(2).text+" -> 1.")
		x := treeCopy(parsed)
		for range 1 + r.Intn(3) {
			change(r, &x)
		}
		for n := range x.Nodes {
			tried(t, x, n, []api.Term{someTerm(r, 2)}, w.e)
		}
		l := []api.Term{w.e["A"], w.e["B"], w.e["C"], w.e["D"], someTerm(r, 2), someTerm(r, 2)}
		for _, n := range clauses(x) {
			tried(t, x, n, l, nil)
		}
	}
}

func change(r *rand.Rand, x *api.Tree) {
	n := &x.Nodes[r.Intn(len(x.Nodes))]
	switch r.Intn(6) {
	case 0:
		n.Kind = r.Intn(28) - 1
	case 1:
		n.N = []int64{-1, 0, 1, 2, 3, math.MaxInt64, math.MinInt64, api.MinInt}[r.Intn(8)]
	case 2:
		n.L = append(slices.Clone(n.L), r.Intn(len(x.Nodes)))
	case 3:
		n.L = n.L[:r.Intn(len(n.L)+1)]
	case 4:
		if len(n.L) > 0 {
			n.L = slices.Clone(n.L)
			n.L[r.Intn(len(n.L))] = r.Intn(len(x.Nodes)+4) - 2
		}
	case 5:
		n.S = []string{"", "_", "-", "andalso", "orelse", "!", "X", "hd", "self", "div"}[r.Intn(10)]
		n.F = []float64{math.NaN(), math.Inf(-1), minus, 1}[r.Intn(4)]
	}
}

// No guard that a right source has asks the process: so it does not matter which one it is.
func TestP803Self(t *testing.T) {
	if _, err := check.Source("-module(m). f(X) when X == self() -> 1."); err == nil {
		t.Fatal("P702: self may stand in a guard")
	}
	x, n := clauseOf(t, "(X) when is_pid(X)")
	for _, self := range []int{0, 1, 2, -1, math.MaxInt, math.MinInt} {
		for id := range 3 {
			bound, is := match.Clause(x, n, []api.Term{pid(int64(id))}, nil, self)
			if !is || len(bound) != 1 || !alike(bound["X"], pid(int64(id))) || !match.Guard(x, x.Nodes[n].L[1], bound, self) {
				t.Errorf("P803: of process %d: %v %s", self, is, saidEnv(bound))
			}
		}
		if _, is := match.Clause(x, n, []api.Term{whole(int64(1))}, nil, self); is {
			t.Errorf("P803: of process %d: 1 is a pid", self)
		}
	}
}
