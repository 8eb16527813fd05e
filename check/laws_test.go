package check_test

import (
	"math/rand"
	"slices"
	"strings"
	"testing"
	"unsafe"

	"exitwave/api"
	"exitwave/check"
	"exitwave/gram"
	"exitwave/lex"
)

// someSources: right ones and wrong ones, and those by whose mending they became right.
func someSources(seed int64, count int) []string {
	r := rand.New(rand.NewSource(seed))
	l := []string{"-module(m).", front + "f(X, Y) -> fun(Z) -> Y + X + Z end.", front + "f() -> X."}
	for range count {
		source := grown(r, 5+r.Intn(30))
		for going := true; going; {
			l = append(l, source)
			x, f := gram.Parse(source)
			if f.Err == api.OK {
				f, _ = foreseen(x)
			}
			source, going = mended(source, f)
		}
	}
	return l
}

// rewritten writes each token of a source anew, with what gap tells ahead of it; and tells where each place of a token is then.
func rewritten(t *testing.T, source string, gap func() string, text func(token api.Token, was string) string) (string, map[int]int) {
	tokens, f := lex.Tokens(source)
	if f.Err != api.OK {
		t.Fatalf("%s: %v", said(source), f)
	}
	var s strings.Builder
	at := map[int]int{}
	for i, x := range tokens {
		s.WriteString(gap())
		at[x.At] = s.Len()
		if i+1 < len(tokens) {
			s.WriteString(text(x, source[x.At:tokens[i+1].At]))
		}
	}
	return s.String(), at
}

func asItWas(_ api.Token, was string) string { return was }

// P704: blanks and comments change but At.
func TestP704Blanks(t *testing.T) {
	r := rand.New(rand.NewSource(7040))
	gap := func() string {
		return strings.Repeat([]string{" ", "\n", "\t", "\r", " % X = 1.\n", "\n%\xff''\n\n"}[r.Intn(6)], 1+r.Intn(2))
	}
	for _, source := range someSources(7041, 200) {
		other, at := rewritten(t, source, gap, asItWas)
		want := faultOf(t, source)
		if want.Err != api.OK {
			want.At = at[want.At]
		}
		if got := faultOf(t, other); got != want {
			t.Errorf("P704 %s: %v; want %v", said(other), got, want)
		}
		if want.Err == api.OK {
			sameFree(t, treeOf(t, source), treeOf(t, other), func(s string) string { return s })
		}
	}
}

// sameFree asks that the funs of two sources that differ by names alone take along the same.
func sameFree(t *testing.T, x, y api.Tree, name func(string) string) {
	t.Helper()
	if len(x.Nodes) != len(y.Nodes) {
		t.Fatalf("%d nodes and %d", len(x.Nodes), len(y.Nodes))
	}
	for _, n := range places(x, api.NFun) {
		want := check.Free(x, n)
		for i := range want {
			want[i] = name(want[i])
		}
		if got := check.Free(y, n); !slices.Equal(got, want) {
			t.Errorf("P705 the fun at %d: %v; want %v", n, got, want)
		}
	}
}

// P705: other names, one for one, change nothing but Free's.
func TestP705Names(t *testing.T) {
	tables := []map[string]string{
		{"X": "Y", "Y": "X"}, {"X": "Y", "Y": "Z", "Z": "W", "W": "X"}, {"X": "_X", "Y": "__", "Z": "Xx", "W": "X@"},
		{"X": strings.Repeat("X", 300), "Y": "F", "Z": "Module", "W": "A0"}, {"X": "_0", "Y": "_1", "Z": "_2", "W": "_3"},
	}
	for i, source := range someSources(7050, 250) {
		table := tables[i%len(tables)]
		name := func(s string) string {
			if other, is := table[s]; is {
				return other
			}
			return s
		}
		other, at := rewritten(t, source, func() string { return "" }, func(token api.Token, was string) string {
			if token.Kind == api.TVar {
				return name(token.S) + was[len(token.S):]
			}
			return was
		})
		want := faultOf(t, source)
		if want.Err != api.OK {
			want.At = at[want.At]
		}
		if got := faultOf(t, other); got != want {
			t.Errorf("P705 %s: %v; want %v", said(other), got, want)
		}
		if want.Err == api.OK {
			sameFree(t, treeOf(t, source), treeOf(t, other), name)
		}
	}
}

// P704: any bytes are taken, or have one fault at a byte of theirs, or at their end.
func TestP704Bytes(t *testing.T) {
	r := rand.New(rand.NewSource(7042))
	sources := someSources(7043, 100)
	for _, source := range sources {
		for range 10 {
			changed(t, r, source, sources[r.Intn(len(sources))])
		}
	}
	for range 2000 {
		b := make([]byte, r.Intn(60))
		r.Read(b)
		oneFault(t, string(b))
		oneFault(t, front+string(b))
	}
}

// changed puts bytes of another source, or of none, into a source.
func changed(t *testing.T, r *rand.Rand, source, other string) {
	t.Helper()
	at := r.Intn(len(source) + 1)
	end := min(len(source), at+r.Intn(4))
	from := r.Intn(len(other))
	oneFault(t, source[:at]+other[from:min(len(other), from+r.Intn(5))]+source[end:])
}

func oneFault(t *testing.T, source string) {
	t.Helper()
	if f := compare(t, source); f.At < 0 || f.At > len(source) {
		t.Errorf("P704 %s: %v", said(source), f)
	}
}

// cloned is a tree with memory of its own, and spare room behind each list, filled with numbers that a call must let be.
func cloned(x api.Tree) api.Tree {
	nodes := make([]api.Node, 0, len(x.Nodes)+3)
	for _, n := range x.Nodes {
		n.S = strings.Clone(n.S)
		l := append(make([]int, 0, len(n.L)+3), n.L...)
		copy(l[len(l):cap(l)], []int{-7, -8, -9})
		n.L = l
		nodes = append(nodes, n)
	}
	for i := range nodes[len(nodes):cap(nodes)] {
		nodes[:cap(nodes)][len(nodes)+i] = api.Node{Kind: -i - 1, S: "spare", L: []int{-1}}
	}
	return api.Tree{Nodes: nodes, Root: x.Root}
}

// whole is a tree with its spare room.
func whole(x api.Tree) api.Tree {
	nodes := slices.Clone(x.Nodes[:cap(x.Nodes)])
	for i := range nodes {
		nodes[i].L = slices.Clone(nodes[i].L[:cap(nodes[i].L)])
	}
	return api.Tree{Nodes: nodes, Root: x.Root}
}

func within(s, whole string) bool {
	if len(s) == 0 || len(whole) == 0 {
		return false
	}
	a, b := uintptr(unsafe.Pointer(unsafe.StringData(s))), uintptr(unsafe.Pointer(unsafe.StringData(whole)))
	return a >= b && a < b+uintptr(len(whole))
}

// P2: a tree is not changed, and neither is an answer by what is done to the tree, or to another answer.
func TestP2(t *testing.T) {
	for _, source := range someSources(7020, 200) {
		parsed, f := gram.Parse(source)
		if f.Err != api.OK {
			continue
		}
		x := cloned(parsed)
		before := whole(x)
		check.Check(x)
		answers := map[int][]string{}
		for _, n := range places(x, api.NFun) {
			answers[n] = check.Free(x, n)
		}
		if !sameTree(whole(x), before) {
			t.Fatalf("P2 %s: the tree is changed", said(source))
		}
		for n, l := range answers {
			ownMemory(t, source, x, n, l)
		}
	}
}

func ownMemory(t *testing.T, source string, x api.Tree, n int, l []string) {
	t.Helper()
	for _, name := range l {
		for _, node := range x.Nodes {
			if within(name, node.S) {
				t.Fatalf("P2 %s: an answer shares memory with the tree", said(source))
			}
		}
	}
	want := slices.Clone(l)
	for i := range l[:cap(l)] {
		l[:cap(l)][i] = "over"
	}
	if again := check.Free(x, n); !slices.Equal(again, want) {
		t.Errorf("P2 %s: %v; was %v", said(source), again, want)
	}
}

// P2: what Source tells is new each time.
func TestP2Source(t *testing.T) {
	source := strings.Clone(front + "f(X) -> fun(Y) -> {X, Y} end.")
	x, y := treeOf(t, source), treeOf(t, source)
	for i, n := range x.Nodes {
		if within(n.S, source) {
			t.Errorf("P2: node %d shares memory with the source", i)
		}
		for j := range n.L {
			n.L[j] = -1
		}
		x.Nodes[i] = api.Node{}
	}
	if !sameTree(y, treeOf(t, source)) || sameTree(x, y) {
		t.Error("P2: two answers share memory")
	}
}

// P3: neither a right source nor a wrong one changes what is told of another.
func TestP3(t *testing.T) {
	sources := someSources(7030, 150)
	sources = append(sources, "", "'", front+"f() -> 1; g() -> 2.")
	var first []api.Fault
	for _, source := range sources {
		first = append(first, faultOf(t, source))
	}
	for i := len(sources) - 1; i >= 0; i-- {
		if f := faultOf(t, sources[i]); f != first[i] {
			t.Errorf("P3 %s: %v; then %v", said(sources[i]), first[i], f)
		}
	}
}
