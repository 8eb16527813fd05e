package eval_test

import (
	"math"
	"slices"
	"testing"

	"exitwave/api"
	"exitwave/eval"
	"exitwave/term"
)

// The tests call the package through what stands here, which asks what must hold of every call: what is handed in stays as it is and is not kept (P2), the answer is the caller's own (P2), the same calls answer the same (P3), however fuel is cut (P1005), beside an error stands nothing (P4), and it changes nothing (P5), what is told are right terms (P1006).

// machine is three that are told the same: one is run as it is said, the second one with fuel of one at a time, the third one in pieces of other lengths.
type machine struct {
	t    *testing.T
	all  [3]*eval.Machine
	from string
}

// roomy is a list of terms once more, it and each list of it with spare room behind, in which marks stand.
func roomy(l []api.Term) []api.Term {
	own := make([]api.Term, 0, len(l)+2)
	for _, x := range l {
		if x.L != nil {
			x.L = roomy(x.L)
		}
		own = append(own, x)
	}
	return append(own, whole(77), atom("room"))[:len(l)]
}

// roomCopy is a list of terms once more, with what stands in the spare room of it, and of theirs.
func roomCopy(l []api.Term) []api.Term {
	own := slices.Clone(l[:cap(l)])
	for i := range own {
		if own[i].L != nil {
			own[i].L = roomCopy(own[i].L)
		}
	}
	return own
}

// listsOf tells all lists of terms, each with its spare room, behind out.
func listsOf(out [][]api.Term, l []api.Term) [][]api.Term {
	if cap(l) > 0 {
		out = append(out, l[:cap(l)])
	}
	for _, x := range l {
		out = listsOf(out, x.L)
	}
	return out
}

// overwrite writes over terms, and fails, if two lists of them share memory.
func overwrite(t *testing.T, call string, terms []api.Term) {
	t.Helper()
	all := listsOf(nil, terms)
	for i, l := range all {
		for k := range l {
			l[k] = api.Term{Kind: -5, N: int64(i), F: float64(k)}
		}
	}
	for i, l := range all {
		for k := range l {
			if l[k].Kind != -5 || l[k].N != int64(i) || l[k].F != float64(k) {
				t.Fatalf("P2 %s: two lists of the answer share memory", call)
			}
		}
	}
}

// treeCopy is a tree once more, what stands in its spare room being part of it.
func treeCopy(x api.Tree) api.Tree {
	nodes := slices.Clone(x.Nodes[:cap(x.Nodes)])
	for i := range nodes {
		nodes[i].L = slices.Clone(nodes[i].L[:cap(nodes[i].L)])
	}
	return api.Tree{Nodes: nodes, Root: x.Root}
}

func sameTree(a, b api.Tree) bool {
	return a.Root == b.Root && slices.EqualFunc(a.Nodes, b.Nodes, func(x, y api.Node) bool {
		return x.Kind == y.Kind && x.S == y.S && x.N == y.N && math.Float64bits(x.F) == math.Float64bits(y.F) && x.At == y.At && slices.Equal(x.L, y.L)
	})
}

// roomyTree is a tree once more, with spare room in which marks stand.
func roomyTree(x api.Tree) api.Tree {
	nodes := append(slices.Clone(x.Nodes), api.Node{Kind: -7}, api.Node{Kind: -8})
	for i := range nodes {
		l := append(slices.Clone(nodes[i].L), -7, -8)
		nodes[i].L = slices.Clip(l)[:len(l)-2]
	}
	return api.Tree{Nodes: slices.Clip(nodes)[:len(x.Nodes)], Root: x.Root}
}

// spoil writes over a tree that was handed in.
func spoil(x api.Tree) {
	for i := range x.Nodes {
		clear(x.Nodes[i].L)
		x.Nodes[i] = api.Node{Kind: -9}
	}
}

// make1 makes a machine of what is handed in, which is written over behind that.
func make1(t *testing.T, from string, x api.Tree, l []api.Term, begin func(api.Tree, []api.Term) (*eval.Machine, api.Errno)) (*eval.Machine, api.Errno) {
	t.Helper()
	tree, given := roomyTree(x), roomy(l)
	was, termsWere := treeCopy(tree), roomCopy(given)
	m, e := begin(tree, given)
	if !sameTree(treeCopy(tree), was) || !slices.EqualFunc(roomCopy(given), termsWere, alike) {
		t.Fatalf("P2 %s: what was handed in is changed", from)
	}
	if (m == nil) != (e != api.OK) {
		t.Fatalf("P4 %s: %v beside %v", from, m, e)
	}
	spoil(tree)
	overwrite(t, from, given)
	return m, e
}

// made makes three machines.
func made(t *testing.T, from string, x api.Tree, l []api.Term, begin func(api.Tree, []api.Term) (*eval.Machine, api.Errno)) (*machine, api.Errno) {
	t.Helper()
	m := &machine{t: t, from: from}
	var errors [3]api.Errno
	for i := range m.all {
		m.all[i], errors[i] = make1(t, from, x, l, begin)
	}
	if errors[1] != errors[0] || errors[2] != errors[0] {
		t.Fatalf("P3 %s: %v", from, errors)
	}
	return m, errors[0]
}

func askStart(t *testing.T, x api.Tree, name string, l ...api.Term) (*machine, api.Errno) {
	t.Helper()
	return made(t, "Start "+name, x, l, func(x api.Tree, l []api.Term) (*eval.Machine, api.Errno) { return eval.Start(x, name, l, 1) })
}

// askNew hands the fun in together with the arguments, so that it is looked after as they are.
func askNew(t *testing.T, x api.Tree, f api.Term, l ...api.Term) (*machine, api.Errno) {
	t.Helper()
	return made(t, "New", x, append([]api.Term{f}, l...), func(x api.Tree, l []api.Term) (*eval.Machine, api.Errno) { return eval.New(x, l[0], l[1:], 1) })
}

func askArity(t *testing.T, x api.Tree, f api.Term) int {
	t.Helper()
	tree, given := roomyTree(x), roomy([]api.Term{f})
	was, termsWere := treeCopy(tree), roomCopy(given)
	n := eval.Arity(tree, given[0])
	if !sameTree(treeCopy(tree), was) || !slices.EqualFunc(roomCopy(given), termsWere, alike) {
		t.Fatalf("P2 Arity: what was handed in is changed")
	}
	if again := eval.Arity(tree, given[0]); again != n {
		t.Fatalf("P3 Arity: %d, then %d", n, again)
	}
	return n
}

// start makes a machine that begins with a function of a source.
func start(t *testing.T, functions, name string, l ...api.Term) *machine {
	t.Helper()
	m, e := askStart(t, treeOf(t, functions), name, l...)
	if e != api.OK {
		t.Fatalf("P1001 %s: Start %s: %v", short(functions), name, e)
	}
	m.from = functions
	return m
}

// bare is an event of a kind with all fields that it has.
func bare(x api.Event) api.Event {
	switch x.Kind {
	case api.VSpent:
		return api.Event{Kind: x.Kind}
	case api.VDone:
		return api.Event{Kind: x.Kind, Term: x.Term}
	case api.VRaise:
		return api.Event{Kind: x.Kind, Class: x.Class, Term: x.Term}
	case api.VAsk:
		return api.Event{Kind: x.Kind, S: x.S, L: x.L}
	case api.VWait:
		return api.Event{Kind: x.Kind, Zero: x.Zero}
	}
	return api.Event{}
}

// run1 runs one machine once, and tells the event in memory of its own; that which was told is written over.
func (m *machine) run1(i, fuel int) (api.Event, int) {
	m.t.Helper()
	x, left := m.all[i].Run(fuel)
	if !alikeEvents(x, bare(x)) || x.Kind == 0 {
		m.t.Fatalf("P4 %s: an event with more than its kind has: %+v", short(m.from), x)
	}
	if left < 0 || left > max(fuel, 0) || x.Kind == api.VSpent && left != 0 {
		m.t.Fatalf("P1005 %s: %s: %d left of %d", short(m.from), told(x), left, fuel)
	}
	all := slices.Clone(x.L)
	if x.Kind == api.VDone || x.Kind == api.VRaise {
		all = append(all, x.Term)
	}
	for _, y := range all {
		if e := term.Check(y); e != api.OK {
			m.t.Fatalf("P1006 %s: %s: no right term: %v", short(m.from), told(x), e)
		}
	}
	own := x
	own.Term, own.L = term.Copy(x.Term), term.Copy(list(x.L...)).L
	overwrite(m.t, "Run", []api.Term{x.Term, list(x.L...)})
	return own, left
}

// pieces runs one machine with fuel in pieces, up to the first stop that is none for fuel.
func (m *machine) pieces(i, fuel int, lengths ...int) (api.Event, int) {
	m.t.Helper()
	left := max(fuel, 0)
	for k := 0; ; k++ {
		piece := min(lengths[k%len(lengths)], left)
		x, rest := m.run1(i, piece)
		left -= max(piece, 0) - rest
		if x.Kind != api.VSpent || left == 0 {
			return x, left
		}
	}
}

// run runs all three with the same fuel in all, and again behind what stops them for more than fuel.
func (m *machine) run(fuel int) (api.Event, int) {
	m.t.Helper()
	x, left := m.run1(0, fuel)
	for i, lengths := range [][]int{1: {1}, 2: {0, 3, -1, 7}} {
		if i == 0 {
			continue
		}
		if y, rest := m.pieces(i, fuel, lengths...); !alikeEvents(x, y) || rest != left {
			m.t.Fatalf("P1005 %s: %s, %d left; in pieces %s, %d left", short(m.from), told(x), left, told(y), rest)
		}
	}
	if x.Kind == api.VSpent {
		return x, left
	}
	for i, again := range []int{5, 0, -1} {
		if y, rest := m.run1(i, again); !alikeEvents(x, y) || rest != max(again, 0) {
			m.t.Fatalf("P1002 %s: %s; Run(%d) again: %s, %d left", short(m.from), told(x), again, told(y), rest)
		}
	}
	return x, left
}

// each makes one call of all three, with a term of its own, which is written over behind that.
func (m *machine) each(call string, x api.Term, make func(m *eval.Machine, x api.Term) (bool, api.Errno)) (bool, api.Errno) {
	m.t.Helper()
	type answer struct {
		is bool
		e  api.Errno
	}
	var answers [3]answer
	for i := range m.all {
		given := roomy([]api.Term{x})
		was := roomCopy(given)
		is, e := make(m.all[i], given[0])
		if !slices.EqualFunc(roomCopy(given), was, alike) {
			m.t.Fatalf("P2 %s: %s: what was handed in is changed", short(m.from), call)
		}
		if is && e != api.OK {
			m.t.Fatalf("P4 %s: %s: true beside %v", short(m.from), call, e)
		}
		overwrite(m.t, call, given)
		answers[i] = answer{is, e}
	}
	if answers[1] != answers[0] || answers[2] != answers[0] {
		m.t.Fatalf("P3 %s: %s: %v", short(m.from), call, answers)
	}
	return answers[0].is, answers[0].e
}

func (m *machine) give(x api.Term) api.Errno {
	m.t.Helper()
	_, e := m.each("Give", x, func(m *eval.Machine, x api.Term) (bool, api.Errno) { return false, m.Give(x) })
	return e
}

func (m *machine) fail(class int, x api.Term) api.Errno {
	m.t.Helper()
	_, e := m.each("Fail", x, func(m *eval.Machine, x api.Term) (bool, api.Errno) { return false, m.Fail(class, x) })
	return e
}

func (m *machine) offer(x api.Term) (bool, api.Errno) {
	m.t.Helper()
	return m.each("Offer", x, (*eval.Machine).Offer)
}

func (m *machine) after() api.Errno {
	m.t.Helper()
	_, e := m.each("After", whole(0), func(m *eval.Machine, x api.Term) (bool, api.Errno) { return false, m.After() })
	return e
}

// expect runs, and asks what it stops with, and how much fuel is left.
func (m *machine) expect(fuel int, want string, left int) {
	m.t.Helper()
	if x, n := m.run(fuel); told(x) != want || n != left {
		m.t.Errorf("P1002 %s: Run(%d): %s, %d left; want %s, %d", short(m.from), fuel, told(x), n, want, left)
	}
}

// plenty is more fuel than the sources of the tests need that end.
const plenty = 100000

// stops runs with plenty of fuel, and asks what it stops with.
func (m *machine) stops(want string) {
	m.t.Helper()
	if x, _ := m.run(plenty); told(x) != want {
		m.t.Errorf("P1002 %s: %s; want %s", short(m.from), told(x), want)
	}
}

// gives, offers answer a machine that should take it.
func (m *machine) gives(x api.Term) {
	m.t.Helper()
	if e := m.give(x); e != api.OK {
		m.t.Fatalf("P1003 %s: Give %s: %v", short(m.from), said(x), e)
	}
}

func (m *machine) offers(x api.Term, want bool) {
	m.t.Helper()
	if is, e := m.offer(x); is != want || e != api.OK {
		m.t.Fatalf("P1004 %s: Offer %s: %v, %v; want %v", short(m.from), said(x), is, e, want)
	}
}

// helpers are functions that expressions of the tests may call.
const helpers = " twice(X) -> X * 2. only(2) -> 1. pair(X, Y) -> {X, Y}. none() -> none. fact(0) -> 1; fact(N) when N > 0 -> N * fact(N - 1)."

// expectExpr asks for the value of an expression, or what it raises.
func expectExpr(t *testing.T, expr, want string) {
	t.Helper()
	start(t, "f() -> "+expr+"."+helpers, "f").stops(want)
}

// expectOf does so of one with a variable X.
func expectOf(t *testing.T, expr string, x api.Term, want string) {
	t.Helper()
	start(t, "f(X) -> "+expr+"."+helpers, "f", x).stops(want)
}
