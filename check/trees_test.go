package check_test

import (
	"math"
	"math/rand"
	"strings"
	"testing"

	"exitwave/api"
	"exitwave/check"
	"exitwave/gram"
)

// asked calls all that takes a tree: each call must end, and none may panic (P1).
func asked(t *testing.T, x api.Tree) error {
	t.Helper()
	err := check.Check(x)
	foundBy(t, "a tree", err)
	step := 1 + len(x.Nodes)/50
	for n := -1; n <= len(x.Nodes); n += step {
		check.Free(x, n)
	}
	return err
}

// refused asks that what is no tree of a source is not taken.
func refused(t *testing.T, what string, x api.Tree) {
	t.Helper()
	if f := foundBy(t, what, asked(t, x)); f != (api.Fault{Err: api.ErrSyntax}) {
		t.Errorf("P8 %s: %v", what, f)
	}
}

// one is a tree of a right source that has all kinds of nodes.
func one(t *testing.T) api.Tree {
	return cloned(treeOf(t, front+`f(X) when X -> {1, 2.5, a, "s"}, [X | -1], Y = [2], catch f(X)(1), fun(1) -> 2 end, fun f/1, case X of 1 -> 2 end, try X of 3 -> 4 catch 5 -> 6 after 7 end, receive 1 -> 2 after 0 -> begin 3 end end.`))
}

func TestP1NoTrees(t *testing.T) {
	refused(t, "nothing", api.Tree{})
	refused(t, "a root alone", api.Tree{Root: 1})
	refused(t, "a root below 0", api.Tree{Nodes: []api.Node{{Kind: api.NModule}}, Root: -1})
	refused(t, "a root past the end", api.Tree{Nodes: []api.Node{{Kind: api.NModule}}, Root: 1})
	refused(t, "no module", api.Tree{Nodes: []api.Node{{Kind: api.NInt}}})
	refused(t, "itself", api.Tree{Nodes: []api.Node{{Kind: api.NModule, L: []int{0}}}})
	refused(t, "a place below 0", api.Tree{Nodes: []api.Node{{Kind: api.NModule, L: []int{-1}}}})
	refused(t, "a place past the end", api.Tree{Nodes: []api.Node{{Kind: api.NModule, L: []int{math.MaxInt}}}})
	refused(t, "a fun alone", api.Tree{Nodes: []api.Node{{Kind: api.NFun, L: []int{0}}}})
	refused(t, "a kind of none", api.Tree{Nodes: []api.Node{{Kind: 25}}})
	refused(t, "two modules", api.Tree{Nodes: []api.Node{{Kind: api.NModule}, {Kind: api.NModule}}, Root: 1})
	if err := asked(t, api.Tree{Nodes: []api.Node{{Kind: api.NModule}}}); err != nil {
		t.Errorf("P701 a module without functions: %v", err)
	}
}

// A node with one part less, or more, or with parts of other kinds, or with one that another one has, too.
func TestP1OddNodes(t *testing.T) {
	for n := range one(t).Nodes {
		x := one(t)
		if l := x.Nodes[n].L; len(l) > 0 {
			x.Nodes[n].L = l[1:]
			refused(t, "a part less", x)
			x.Nodes[n].L = append([]int{l[0]}, l...)
			refused(t, "a part twice", x)
		}
		x = one(t)
		x.Nodes[n].L = append(x.Nodes[n].L, n)
		refused(t, "a node that has itself", x)
		x = one(t)
		x.Nodes[n].L = append(x.Nodes[n].L, len(x.Nodes)-1)
		refused(t, "a node that has the root", x)
		x.Nodes[n].L = make([]int, 1<<10)
		refused(t, "many parts", x)
		for kind := -1; kind < 26; kind++ {
			x = one(t)
			x.Nodes[n].Kind = kind
			asked(t, x)
		}
	}
}

// body is a function's body of nodes that stand behind a guard (place 0), the last of them being the one expression.
func body(nodes ...api.Node) api.Tree {
	l := append([]api.Node{{Kind: api.NGuard}}, nodes...)
	n := len(l)
	return api.Tree{Nodes: append(l, api.Node{Kind: api.NBody, L: []int{n - 1}}, api.Node{Kind: api.NClause, S: "f", L: []int{0, n}}, api.Node{Kind: api.NClauses, L: []int{n + 1}},
		api.Node{Kind: api.NFunc, S: "f", L: []int{n + 2}}, api.Node{Kind: api.NModule, L: []int{n + 3}}), Root: n + 4}
}

// Each kind with parts that one of it does not have.
func TestP1OddParts(t *testing.T) {
	if err := asked(t, body(api.Node{Kind: api.NInt})); err != nil {
		t.Fatal(err)
	}
	x := api.Node{Kind: api.NInt}
	none := api.Node{Kind: api.NClauses}
	for _, c := range []struct {
		what  string
		nodes []api.Node
	}{
		{"an int with a part", []api.Node{x, {Kind: api.NInt, L: []int{1}}}},
		{"a variable with a part", []api.Node{x, {Kind: api.NVar, L: []int{1}}}},
		{"a name of a function with a part", []api.Node{x, {Kind: api.NFunName, L: []int{1}}}},
		{"a tuple of clauses", []api.Node{none, {Kind: api.NTuple, L: []int{1}}}},
		{"a call of clauses", []api.Node{none, {Kind: api.NCall, S: "hd", L: []int{1}}}},
		{"a cons of nothing", []api.Node{{Kind: api.NCons}}},
		{"an apply of nothing", []api.Node{{Kind: api.NApply}}},
		{"a cons of clauses", []api.Node{none, {Kind: api.NCons, L: []int{1}}}},
		{"an operator of nothing", []api.Node{{Kind: api.NOp, S: "-"}}},
		{"an operator of three", []api.Node{x, x, x, {Kind: api.NOp, S: "-", L: []int{1, 2, 3}}}},
		{"an operator of clauses", []api.Node{none, {Kind: api.NOp, S: "-", L: []int{1}}}},
		{"a match of one", []api.Node{x, {Kind: api.NMatch, L: []int{1}}}},
		{"a match of clauses", []api.Node{x, none, {Kind: api.NMatch, L: []int{1, 2}}}},
		{"a catch of nothing", []api.Node{{Kind: api.NCatch}}},
		{"a catch of two", []api.Node{x, x, {Kind: api.NCatch, L: []int{1, 2}}}},
		{"a case without clauses", []api.Node{x, {Kind: api.NCase, L: []int{1}}}},
		{"a case of two expressions", []api.Node{x, x, {Kind: api.NCase, L: []int{1, 2}}}},
		{"a try of a body", []api.Node{{Kind: api.NBody}, {Kind: api.NTry, L: []int{1}}}},
		{"a try the other way round", []api.Node{none, {Kind: api.NBody}, {Kind: api.NBody}, none, {Kind: api.NTry, L: []int{1, 2, 3, 4}}}},
		{"a receive of nothing", []api.Node{{Kind: api.NReceive}}},
		{"a receive the other way round", []api.Node{{Kind: api.NBody}, none, {Kind: api.NReceive, L: []int{1, 2}}}},
		{"a fun of nothing", []api.Node{{Kind: api.NFun}}},
		{"a fun of an expression", []api.Node{x, {Kind: api.NFun, L: []int{1}}}},
		{"a fun without clauses", []api.Node{none, {Kind: api.NFun, L: []int{1}}}},
		{"clauses of expressions", []api.Node{x, x, {Kind: api.NClauses, L: []int{2}}, {Kind: api.NCase, L: []int{1, 3}}}},
		{"a clause as an expression", []api.Node{{Kind: api.NGuard}, {Kind: api.NBody}, {Kind: api.NClause, L: []int{1, 2}}}},
		{"a clause of nothing", []api.Node{x, {Kind: api.NClause}, {Kind: api.NClauses, L: []int{2}}, {Kind: api.NCase, L: []int{1, 3}}}},
		{"a clause of a guard", []api.Node{{Kind: api.NGuard}, {Kind: api.NClause, N: -1, L: []int{1}}, {Kind: api.NClauses, L: []int{2}}, {Kind: api.NFun, L: []int{3}}}},
		{"a clause that counts wrong", []api.Node{{Kind: api.NGuard}, {Kind: api.NBody}, {Kind: api.NClause, N: 1, L: []int{1, 2}}, {Kind: api.NClauses, L: []int{3}}, {Kind: api.NFun, L: []int{4}}}},
		{"a clause without a guard", []api.Node{x, {Kind: api.NBody}, {Kind: api.NClause, L: []int{1, 2}}, {Kind: api.NClauses, L: []int{3}}, {Kind: api.NFun, L: []int{4}}}},
		{"a clause whose pattern is a guard", []api.Node{{Kind: api.NGuard}, {Kind: api.NGuard}, {Kind: api.NBody}, {Kind: api.NClause, N: 1, L: []int{1, 2, 3}}, {Kind: api.NClauses, L: []int{4}}, {Kind: api.NFun, L: []int{5}}}},
		{"a guard as an expression", []api.Node{{Kind: api.NGuard}}},
		{"a module as an expression", []api.Node{{Kind: api.NModule}}},
		{"a node of kind 0", []api.Node{{}}},
		{"a node of kind -1", []api.Node{{Kind: -1}}},
	} {
		refused(t, c.what, body(c.nodes...))
	}
	y := body(x)
	y.Nodes[y.Root].L = nil
	refused(t, "a function that nobody has", y)
	y = body(x)
	y.Nodes[len(y.Nodes)-2].Kind = api.NFun
	refused(t, "a module of a fun", y)
}

// Nodes that have the same ones again and again, and such as are nested without end.
func TestP1Shared(t *testing.T) {
	nodes := []api.Node{{Kind: api.NInt}}
	for i := range 200 {
		nodes = append(nodes, api.Node{Kind: api.NTuple, L: []int{i + 1, i + 1}})
	}
	refused(t, "a node that is had twice", body(nodes...))
	x := body(api.Node{Kind: api.NTuple, L: []int{2}}, api.Node{Kind: api.NTuple, L: []int{1}})
	refused(t, "two nodes that have each other", x)
	x = body(api.Node{Kind: api.NInt}, api.Node{Kind: api.NInt}, api.Node{Kind: api.NTuple, L: []int{2, 1}})
	refused(t, "parts that do not rise", x)
	for _, count := range []int{api.MaxNodes - 7, api.MaxNodes - 6, api.MaxNodes - 5, 1 << 17} {
		nodes = []api.Node{{Kind: api.NInt}}
		for i := range count {
			nodes = append(nodes, api.Node{Kind: api.NCatch, L: []int{i + 1}})
		}
		if x = body(nodes...); len(x.Nodes) > api.MaxNodes {
			refused(t, "too many nodes", x)
		} else if err := asked(t, x); err != nil {
			t.Errorf("P701 %d nodes within each other: %v", count, err)
		}
	}
}

// Trees in which one thing or another was changed by chance.
func TestP1Changed(t *testing.T) {
	r := rand.New(rand.NewSource(1070))
	for _, source := range someSources(1071, 60) {
		parsed, f := gram.Parse(source)
		if f.Err != api.OK {
			continue
		}
		for range 20 {
			x := cloned(parsed)
			for range 1 + r.Intn(3) {
				change(r, &x)
			}
			asked(t, x)
		}
	}
}

func change(r *rand.Rand, x *api.Tree) {
	if len(x.Nodes) == 0 {
		return
	}
	n := &x.Nodes[r.Intn(len(x.Nodes))]
	switch r.Intn(9) {
	case 0:
		n.Kind = r.Intn(28) - 1
	case 1:
		n.N = []int64{-1, 0, 1, 2, 3, math.MaxInt64, math.MinInt64}[r.Intn(7)]
	case 2:
		n.L = append(n.L, r.Intn(len(x.Nodes)))
	case 3:
		n.L = n.L[:r.Intn(len(n.L)+1)]
	case 4:
		if len(n.L) > 0 {
			n.L[r.Intn(len(n.L))] = r.Intn(len(x.Nodes)+4) - 2
		}
	case 5:
		n.S = []string{"", "_", "-", "andalso", "orelse", "!", "X", "hd"}[r.Intn(8)]
	case 6:
		x.Root = r.Intn(len(x.Nodes)+4) - 2
	case 7:
		x.Nodes = x.Nodes[:r.Intn(len(x.Nodes)+1)]
	case 8:
		n.At = -1
	}
}

// Sources at the bounds: as many nodes as may be, nested as deep.
func TestP1Great(t *testing.T) {
	var vars strings.Builder
	for i := range 3000 {
		if i > 0 {
			vars.WriteString(",")
		}
		vars.WriteString("V" + strings.Repeat(string(rune('a'+i%26)), 1+i/500) + string(rune('a'+i/26%26)) + string(rune('a'+i/676)))
	}
	expectRight(t, "f({"+vars.String()+"}) -> case 1 of "+strings.Repeat("_->1;", 2000)+"X->X end.")
	expectRight(t, "f(X) -> "+strings.Repeat("{", 199)+"X"+strings.Repeat("}", 199)+".")
	expectRight(t, "f(X) -> "+strings.Repeat("fun(Y) -> ", 199)+"X"+strings.Repeat(" end", 199)+".")
	expectRight(t, "f(X) -> "+strings.Repeat("try ", 197)+"{"+vars.String()+"} = X"+strings.Repeat(" after X end", 197)+".")
	expect(t, api.ErrUnsafe, "f(X) -> "+strings.Repeat("case X of 1 -> ", 198)+"Y = 1"+strings.Repeat("; Y -> 2 end", 197)+"; _ -> 2 end, ^Y.")
	expectRight(t, "f(X) -> "+strings.Repeat("case X of 1 -> ", 198)+"Y = 1"+strings.Repeat("; Y -> 2 end", 198)+", Y.")
}
