package eval_test

import (
	"math"
	"math/rand"
	"strings"
	"testing"

	"exitwave/api"
	"exitwave/check"
	"exitwave/eval"
)

// all is a source with all kinds of nodes, in which all is reckoned.
const all = `f(X) when X > 0 -> {1, 2.5, a, "s"}, [X | [-1]], Y = [2], catch f(0)(1), F = fun(1) -> X; ({A, _}) -> A end, F({Y, 2}), G = fun h/0, G(), case X of 1 -> 2; _ -> 3 end,
	try g(X) of 3 -> 4; _ -> throw(5) catch 5 -> 6; _:Z -> {Z} after 7 end, receive 1 -> 2; {X} -> X after 0 -> begin 3, 4 end end, true andalso (1 < 2), self() ! X, not false; f(X) -> {X}.
	g(X) -> exit(X). h() -> receive X -> X after infinity -> 1 end, is_function(fun f/1, 1).`

// played runs a machine on, with an answer to all that it asks, for a while: each call must end, and none may panic (P1).
func played(m *eval.Machine) {
	for i := range 12 {
		x, left := m.Run(40)
		if left < 0 {
			panic("less than nothing is left")
		}
		switch {
		case x.Kind == api.VDone || x.Kind == api.VRaise:
			return
		case x.Kind == api.VAsk && i%3 == 0:
			m.Fail(api.CExit, atom("a"))
		case x.Kind == api.VAsk:
			m.Give(whole(1))
		case x.Kind == api.VWait:
			if is, _ := m.Offer(whole(int64(i % 3))); !is {
				m.After()
			}
		}
	}
}

// begun plays all that a tree may begin with; one that is not right has no functions and no funs.
func begun(t *testing.T, x api.Tree) {
	t.Helper()
	funs := append(places(x, api.NFun), places(x, api.NFunName)...)
	if check.Check(x) != nil {
		nothing(t, x, append(funs, 0, len(x.Nodes)))
		return
	}
	for i, name := range []string{"f", "g", "h", ""} {
		m, e := eval.Start(x, name, times([]int{1, 1, 0, 0}[i], whole(1)), 1)
		if (m == nil) != (e != api.OK) {
			t.Fatalf("P4 Start: %v beside %v", m, e)
		}
		if m != nil {
			played(m)
		}
	}
	for _, n := range funs {
		f := fun(n, times(len(check.Free(x, n)), whole(1))...)
		a := eval.Arity(x, f)
		m, e := eval.New(x, f, times(max(a, 0), whole(1)), 1)
		if a < 0 || m == nil || e != api.OK {
			t.Fatalf("P1001 New: %v, where Arity is %d", e, a)
		}
		played(m)
	}
}

func nothing(t *testing.T, x api.Tree, funs []int) {
	t.Helper()
	if m, e := eval.Start(x, "f", times(1, whole(1)), 1); m != nil || e != api.ErrNone {
		t.Fatalf("P1001 Start: %v; want none", e)
	}
	for _, n := range funs {
		if a := eval.Arity(x, fun(n)); a != -1 {
			t.Fatalf("P1001 Arity: %d", a)
		}
		if m, e := eval.New(x, fun(n), nil, 1); m != nil || e != api.ErrBad {
			t.Fatalf("P1001 New: %v; want badarg", e)
		}
	}
}

func cloned(x api.Tree) api.Tree {
	own := treeCopy(x)
	own.Nodes = own.Nodes[:len(x.Nodes)]
	for i := range own.Nodes {
		own.Nodes[i].L = own.Nodes[i].L[:len(x.Nodes[i].L)]
	}
	return own
}

// Trees that are none of a right source have no functions here, and no funs.
func TestP1NoTrees(t *testing.T) {
	module := api.Node{Kind: api.NModule}
	for _, x := range []api.Tree{
		{}, {Root: 1}, {Root: -1}, {Nodes: []api.Node{module}, Root: -1}, {Nodes: []api.Node{module}, Root: 1}, {Nodes: []api.Node{module}, Root: math.MaxInt}, {Nodes: []api.Node{{Kind: api.NModule, L: []int{0}}}},
		{Nodes: []api.Node{{Kind: api.NModule, L: []int{-1}}}}, {Nodes: []api.Node{{Kind: api.NFun, L: []int{0}}}}, {Nodes: []api.Node{{Kind: api.NFunName, S: "f"}, {Kind: api.NModule, L: []int{0}}}, Root: 1}, {Nodes: []api.Node{module}},
	} {
		begun(t, x)
		nothing(t, x, []int{0, 1, 2})
	}
}

// A tree of which one node is another one: in each place each kind, other numbers and texts, other parts.
func TestP1OddNodes(t *testing.T) {
	x := treeOf(t, all)
	begun(t, x)
	for n := range x.Nodes {
		for kind := -1; kind < 26; kind++ {
			y := cloned(x)
			y.Nodes[n].Kind = kind
			begun(t, y)
		}
		for _, number := range []int64{-1, 0, 1, 2, 3, math.MaxInt64, math.MinInt64, api.MaxInt + 1} {
			y := cloned(x)
			y.Nodes[n].N = number
			y.Nodes[n].F = math.NaN()
			begun(t, y)
		}
		for _, s := range []string{"", "f", "X", "!", "andalso", "nobody", "exit", strings.Repeat("a", 100)} {
			y := cloned(x)
			y.Nodes[n].S = s
			begun(t, y)
		}
		for _, l := range [][]int{nil, {0}, {n}, {n - 1}, {x.Root}, {-1}, {math.MaxInt}, make([]int, 50)} {
			y := cloned(x)
			y.Nodes[n].L = l
			begun(t, y)
		}
	}
}

// Trees of which many nodes are others by chance.
func TestP1OddTrees(t *testing.T) {
	r := rand.New(rand.NewSource(1001))
	x := treeOf(t, all)
	for range 3000 {
		y := cloned(x)
		for range 1 + r.Intn(4) {
			n := r.Intn(len(y.Nodes))
			switch r.Intn(4) {
			case 0:
				y.Nodes[n].Kind = r.Intn(26)
			case 1:
				y.Nodes[n] = y.Nodes[r.Intn(len(y.Nodes))]
			case 2:
				y.Nodes[n].N = int64(r.Intn(4))
			case 3:
				if l := y.Nodes[n].L; len(l) > 0 {
					l[r.Intn(len(l))] = r.Intn(len(y.Nodes))
				}
			}
		}
		begun(t, y)
	}
}

// body is the tree of a function f without arguments, whose body has the last one of nodes, which stand behind a guard (place 0).
func body(nodes ...api.Node) api.Tree {
	l := append([]api.Node{{Kind: api.NGuard}}, nodes...)
	n := len(l)
	return api.Tree{Nodes: append(l, api.Node{Kind: api.NBody, L: []int{n - 1}}, api.Node{Kind: api.NClause, S: "f", L: []int{0, n}}, api.Node{Kind: api.NClauses, L: []int{n + 1}},
		api.Node{Kind: api.NFunc, S: "f", L: []int{n + 2}}, api.Node{Kind: api.NModule, L: []int{n + 3}}), Root: n + 4}
}

// Trees that check takes, though no source has them: what they raise is nothing that the document says, but it is a right term.
func TestP1OddParts(t *testing.T) {
	one, empty, none := api.Node{Kind: api.NInt, N: 1}, api.Node{Kind: api.NBody}, api.Node{Kind: api.NClauses}
	for _, nodes := range [][]api.Node{
		{{Kind: api.NInt, N: math.MaxInt64}}, {{Kind: api.NInt, N: api.MinInt - 1}}, {{Kind: api.NFloat, F: math.NaN()}}, {{Kind: api.NFloat, F: math.Inf(-1)}}, {{Kind: api.NAtom, S: strings.Repeat("a", 65)}}, {empty},
		{one, {Kind: api.NOp, S: "andalso", L: []int{1}}}, {one, {Kind: api.NOp, S: "!", L: []int{1}}}, {one, {Kind: api.NOp, S: "+", L: []int{1}}}, {one, one, {Kind: api.NOp, S: "?", L: []int{1, 2}}}, {one, one, {Kind: api.NOp, S: "not", L: []int{1, 2}}}, {{Kind: api.NInt, N: math.MinInt64}, {Kind: api.NOp, S: "-", L: []int{1}}},
		{one, none, {Kind: api.NCase, L: []int{1, 2}}}, {empty, none, none, empty, {Kind: api.NTry, L: []int{1, 2, 3, 4}}}, {empty, none, none, empty, {Kind: api.NTry, N: 1, L: []int{1, 2, 3, 4}}}, {one, {Kind: api.NBody, L: []int{1}}, none, none, empty, {Kind: api.NTry, N: 1, L: []int{2, 3, 4, 5}}}, {none, empty, {Kind: api.NReceive, N: 1, L: []int{1, 2}}}, {none, empty, {Kind: api.NReceive, N: 5, L: []int{1, 2}}},
		{one, {Kind: api.NCons, L: []int{1}}}, {{Kind: api.NList}, {Kind: api.NCons, L: []int{1}}},
	} {
		x := body(nodes...)
		if err := check.Check(x); err != nil {
			t.Fatalf("%v: %v", nodes, err)
		}
		begun(t, x)
		m, e := askStart(t, x, "f")
		if e != api.OK {
			t.Fatalf("P1001 %v: %v", nodes, e)
		}
		m.run(10)
	}
	// The last body of a try that says it has none, and a class that is a variable.
	m, _ := askStart(t, body(one, api.Node{Kind: api.NBody, L: []int{1}}, none, none, one, api.Node{Kind: api.NBody, L: []int{5}}, api.Node{Kind: api.NTry, L: []int{2, 3, 4, 6}}), "f")
	m.stops("1")
}

// Nodes nested far deeper than a source may have them.
func TestP1DeepTree(t *testing.T) {
	nodes := []api.Node{{Kind: api.NInt, N: 1}}
	for i := range 16000 {
		nodes = append(nodes, api.Node{Kind: api.NTuple, L: []int{i + 1}})
	}
	m, e := askStart(t, body(nodes...), "f")
	if e != api.OK {
		t.Fatalf("P1001 %v", e)
	}
	m.stops("error system_limit")
	for i := range nodes[1:] {
		nodes[i+1] = api.Node{Kind: api.NBody, L: []int{i + 1}}
	}
	m, _ = askStart(t, body(nodes...), "f")
	m.stops("1")
}

// A machine that nobody began has nothing ahead of it.
func TestP1ZeroMachine(t *testing.T) {
	var m eval.Machine
	for _, fuel := range []int{-1, 0, 5} {
		if x, left := m.Run(fuel); !alikeEvents(x, api.Event{}) || left != max(fuel, 0) {
			t.Errorf("P1 Run(%d): %+v, %d left", fuel, x, left)
		}
	}
	if is, e := m.Offer(whole(1)); is || e != api.ErrNone || m.Give(whole(1)) != api.ErrNone || m.Fail(1, whole(1)) != api.ErrNone || m.After() != api.ErrNone {
		t.Errorf("P1 Offer, Give, Fail, After of a machine that nobody began")
	}
}
