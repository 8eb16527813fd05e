package match_test

import (
	"strings"
	"testing"

	"exitwave/api"
	"exitwave/check"
	"exitwave/match"
)

func TestP804Numbers(t *testing.T) {
	one, two := whole(1), whole(2)
	expectClause(t, "()", nil, nil, "")
	expectClause(t, "()", []api.Term{}, env{"X": one}, "X 1")
	expectClause(t, "()", []api.Term{one}, nil, "no")
	expectClause(t, "(_)", nil, nil, "no")
	expectClause(t, "(X)", []api.Term{one}, nil, "X 1")
	expectClause(t, "(X)", []api.Term{one, two}, nil, "no")
	expectClause(t, "(X, Y)", []api.Term{one}, nil, "no")
	expectClause(t, "(X, Y)", []api.Term{one, two}, nil, "X 1; Y 2")
	expectClause(t, "(X, Y)", []api.Term{one, two, two}, nil, "no")
	expectClause(t, "({X, Y})", []api.Term{one, two}, nil, "no")
	expectClause(t, "([X, Y])", []api.Term{list(one, two)}, nil, "X 1; Y 2")
	head := "(" + strings.Repeat("_, ", api.MaxArity-1) + "X)"
	expectClause(t, head, times(api.MaxArity, one), nil, "X 1")
	expectClause(t, head, times(api.MaxArity-1, one), nil, "no")
	expectClause(t, head, times(api.MaxArity+1, one), nil, "no")
}

// Each pattern goes by what those ahead of it bound.
func TestP804Bound(t *testing.T) {
	one, two := whole(1), whole(2)
	expectClause(t, "(X, X)", []api.Term{one, one}, nil, "X 1")
	expectClause(t, "(X, X)", []api.Term{one, float(1)}, nil, "no")
	expectClause(t, "(X, Y, X)", []api.Term{one, two, one}, nil, "X 1; Y 2")
	expectClause(t, "({X}, [X | T])", []api.Term{tuple(one), list(one, two)}, nil, "T [2]; X 1")
	expectClause(t, "({X}, [X | T])", []api.Term{tuple(one), list(two)}, nil, "no")
	expectClause(t, "(X, Y)", []api.Term{one, two}, env{"Y": two, "Z": one}, "X 1; Y 2; Z 1")
	expectClause(t, "(X, Y)", []api.Term{one, two}, env{"Y": one}, "no")
	expectClause(t, "(_, _)", []api.Term{one, two}, nil, "")
	expectClause(t, "(1, X = {_, Y})", []api.Term{one, tuple(one, two)}, nil, "X {1,2}; Y 2")
	expectClause(t, "(2, X)", []api.Term{one, two}, nil, "no")
	expectClause(t, "(X, 1)", []api.Term{one, two}, nil, "no")
}

// The guard goes by what the patterns bound, and by env.
func TestP804Guards(t *testing.T) {
	one, two := whole(1), whole(2)
	expectClause(t, "(X, Y) when X < Y", []api.Term{one, two}, nil, "X 1; Y 2")
	expectClause(t, "(X, Y) when X < Y", []api.Term{two, one}, nil, "no")
	expectClause(t, "(X, Y) when X < Y, Y < 2", []api.Term{one, two}, nil, "no")
	expectClause(t, "(X) when X", []api.Term{atom("true")}, nil, "X true")
	expectClause(t, "(X) when X", []api.Term{one}, nil, "no")
	expectClause(t, "(X) when hd(X) == 1", []api.Term{list(one)}, nil, "X [1]")
	expectClause(t, "(X) when hd(X) == 1", []api.Term{list()}, nil, "no")
	expectClause(t, "({X, [Y | T]}) when length(T) == X, Y > X", []api.Term{tuple(one, list(two, two))}, nil, "T [2]; X 1; Y 2")
	expectClause(t, "({X, [Y | T]}) when length(T) == X, Y > X", []api.Term{tuple(one, list(one, two))}, nil, "no")
	expectClause(t, "() when true", nil, env{"X": one}, "X 1")
	expectClause(t, "() when false", nil, env{"X": one}, "no")
	expectClause(t, "(X) when X == 1", []api.Term{one}, env{"X": float(1)}, "no") // the pattern ahead of the guard
	expectClause(t, "(1) when 1", []api.Term{one}, nil, "no")
}

// clauses tells the places of all clauses of a tree.
func clauses(x api.Tree) []int {
	var l []int
	for n, node := range x.Nodes {
		if node.Kind == api.NClause {
			l = append(l, n)
		}
	}
	return l
}

// Clauses of a case, a fun, a receive, and of a try, where the class is a pattern, too.
func TestP804Others(t *testing.T) {
	x := treeOf(t, "f(A) -> case A of {B} when B > A -> B end, try A of A -> 1 catch throw:{C} -> C; _:D when D == A -> D; {E} -> E end, fun(A, G) when G -> A end, receive A -> 1 end.")
	e := env{"A": whole(1)}
	l := clauses(x)
	for _, c := range []struct {
		clause int
		l      []api.Term
		want   string
	}{
		{0, []api.Term{tuple(whole(2))}, "A 1; B 2"},
		{0, []api.Term{tuple(whole(1))}, "no"},
		{1, []api.Term{whole(1)}, "A 1"},
		{1, []api.Term{whole(2)}, "no"},
		{2, []api.Term{atom("throw"), tuple(whole(3))}, "A 1; C 3"},
		{2, []api.Term{atom("error"), tuple(whole(3))}, "no"},
		{2, []api.Term{tuple(whole(3))}, "no"},
		{3, []api.Term{atom("exit"), float(1)}, "A 1; D #3ff0000000000000"},
		{3, []api.Term{atom("exit"), whole(2)}, "no"},
		{4, []api.Term{atom("throw"), tuple(whole(3))}, "A 1; E 3"},
		{4, []api.Term{atom("exit"), tuple(whole(3))}, "no"},
		{5, []api.Term{whole(1), atom("true")}, "A 1; G true"},
		{5, []api.Term{whole(1), atom("false")}, "no"},
		{5, []api.Term{whole(2), atom("true")}, "no"},
		{6, []api.Term{whole(1)}, "A 1"},
		{6, []api.Term{atom("a")}, "no"},
	} {
		got := "no"
		if bound, is := askClause(t, x, l[c.clause], c.l, e); is {
			got = saidEnv(bound)
		}
		if got != c.want {
			t.Errorf("P804 clause %d and %s: %s; want %s", c.clause, said(list(c.l...)), got, c.want)
		}
	}
}

// A clause is taken just where its patterns match, one behind the other, and its guard is true then.
func TestP804Parts(t *testing.T) {
	heads := []string{"(X, Y)", "(X, X)", "({X, Y}, [X | T])", "(1, X) when X > 1", "(X, Y) when X == Y", "(X, Y) when X andalso Y", "([X | T], Y) when hd(T) == Y, is_atom(X)", "(_, X = [Y | _])", `("a", _)`, "(X, {X})"}
	for _, head := range heads {
		x, n := clauseOf(t, head)
		for _, v := range kinds() {
			for _, w := range []api.Term{v, tuple(v), list(v, v), whole(1), float(1), atom("true")} {
				l := []api.Term{v, w}
				want, fits := match.Pattern(x, x.Nodes[n].L[0], v, env{"Z": w})
				if fits {
					want, fits = match.Pattern(x, x.Nodes[n].L[1], w, want)
				}
				fits = fits && match.Guard(x, x.Nodes[n].L[2], want, 1)
				got, is := askClause(t, x, n, l, env{"Z": w})
				if is != fits || is && !sameEnv(got, want) {
					t.Errorf("P804 f%s and %s: %v %s; want %v %s", head, said(list(l...)), is, saidEnv(got), fits, saidEnv(want))
				}
			}
		}
	}
}

// A source with as many nodes as may be, most of them in one clause.
func TestP804Great(t *testing.T) {
	count := api.MaxNodes - 3 - 10
	head := "f({" + strings.Repeat("_,", count/2-1) + "_}) when " + strings.Repeat("1<2,", count/6) + "true"
	x, err := check.Source("-module(m). " + head + "->1.")
	if err != nil {
		t.Fatal(err)
	}
	if len(x.Nodes) < api.MaxNodes-30 {
		t.Fatalf("%d nodes", len(x.Nodes))
	}
	n := clauses(x)[0]
	if _, is := askClause(t, x, n, []api.Term{tuple(times(count/2, whole(1))...)}, nil); !is {
		t.Error("P804: a great clause is not taken")
	}
	if _, is := askClause(t, x, n, []api.Term{tuple(times(count/2+1, whole(1))...)}, nil); is {
		t.Error("P804: a great clause is taken")
	}
}
