package eval_test

import (
	"testing"

	"exitwave/api"
	"exitwave/eval"
	"exitwave/gram"
)

const beginning = "f(X, Y) -> {fun() -> X end, fun(A) -> {A, Y, X} end}. g() -> fun f/2. h(1) -> a; h(X) when X > 1 -> {X}. self() -> mine. f(X) -> X. 'a b'() -> 7."

func TestP1001Start(t *testing.T) {
	x := treeOf(t, beginning)
	for _, c := range []struct {
		name string
		l    []api.Term
		want string
	}{
		{"h", []api.Term{whole(1)}, "a"}, {"h", []api.Term{whole(2)}, "{2}"}, {"h", []api.Term{whole(0)}, "error function_clause"}, {"self", nil, "mine"}, {"f", []api.Term{list()}, "[]"}, {"a b", nil, "7"},
	} {
		m, e := askStart(t, x, c.name, c.l...)
		if e != api.OK {
			t.Fatalf("P1001 Start %s: %v", c.name, e)
		}
		m.expect(0, "spent", 0)
		m.expect(5, c.want, 4)
	}
	for _, c := range []struct {
		name string
		n    int
	}{{"f", 0}, {"f", 3}, {"g", 1}, {"h", 0}, {"h", 2}, {"nobody", 0}, {"", 0}, {"m", 0}, {"length", 1}, {"exit", 1}, {"self", 1}, {"A b", 0}, {"f", 17}, {"f", 1000}} {
		if _, e := askStart(t, x, c.name, times(c.n, whole(1))...); e != api.ErrNone {
			t.Errorf("P1001 Start %s with %d: %v; want none", c.name, c.n, e)
		}
	}
	for _, y := range kinds() {
		m, _ := askStart(t, x, "f", y)
		m.expect(1, said(y), 0)
	}
}

func TestP1001New(t *testing.T) {
	x := treeOf(t, beginning)
	funs, name := places(x, api.NFun), places(x, api.NFunName)[0]
	for _, c := range []struct {
		f    api.Term
		l    []api.Term
		want string
	}{
		{fun(funs[0], atom("v")), nil, "v"}, {fun(funs[1], atom("y"), atom("x")), []api.Term{atom("a")}, "{a,y,x}"},
	} {
		m, e := askNew(t, x, c.f, c.l...)
		if e != api.OK {
			t.Fatalf("P1001 New %s: %v", said(c.f), e)
		}
		m.expect(0, "spent", 0)
		m.expect(5, c.want, 4)
	}
	m, _ := askNew(t, x, fun(name), whole(1), whole(2))
	if y, left := m.run(5); y.Kind != api.VDone || y.Term.Kind != api.KTuple || left != 4 {
		t.Errorf("P1001 New fun f/2: %s", told(y))
	}
	for _, c := range []struct {
		f api.Term
		n int
	}{
		{fun(funs[0], atom("v")), 1}, {fun(funs[0], atom("v")), 2}, {fun(funs[0]), 0}, {fun(funs[0], atom("a"), atom("b")), 0}, {fun(funs[1], atom("y")), 1}, {fun(funs[1], atom("y"), atom("x")), 0}, {fun(name), 0}, {fun(name), 1}, {fun(name), 3}, {fun(name, atom("a")), 2}, {fun(funs[0] + 1), 0}, {fun(x.Root), 0}, {fun(x.Root + 1), 0}, {fun(api.MaxNodes), 0},
	} {
		if _, e := askNew(t, x, c.f, times(c.n, whole(1))...); e != api.ErrBad {
			t.Errorf("P1001 New %s with %d: %v; want badarg", said(c.f), c.n, e)
		}
	}
	for _, y := range kinds() {
		for n := range 3 {
			if _, e := askNew(t, x, y, times(n, whole(1))...); e != api.ErrBad {
				t.Errorf("P1001 New %s with %d: %v; want badarg", said(y), n, e)
			}
		}
	}
	m, _ = askNew(t, treeOf(t, "f() -> fun(1) -> 2; (3) -> exit(4) end."), fun(places(treeOf(t, "f() -> fun(1) -> 2; (3) -> exit(4) end."), api.NFun)[0]), whole(2))
	m.expect(1, "error function_clause", 0)
}

// A machine begun with a fun makes the same as one that calls it.
func TestP1001NewIsACall(t *testing.T) {
	for _, c := range []struct{ fun, args string }{
		{"fun(A, B) -> {A, B, X} end", "1, 2"}, {"fun(X, _) -> X end", "1, 2"}, {"fun(A, A) -> A; (X, B) when X > B -> X; (_, B) -> {X, B} end", "1, 2"}, {"fun g/2", "1, 2"}, {"fun(_, _) -> exit(X) end", "1, 2"}, {"fun(a, _) -> X end", "1, 2"}, {"fun(A, B) -> g(A, g(B, X)) end", "1, 2"},
	} {
		functions := "f(X) -> " + c.fun + ". c(X) -> (" + c.fun + ")(" + c.args + "). g(X, Y) -> {g, X, Y}."
		x := treeOf(t, functions)
		m, _ := askStart(t, x, "f", whole(9))
		f, _ := m.run(1)
		byNew, e := askNew(t, x, f.Term, whole(1), whole(2))
		if e != api.OK {
			t.Fatalf("P1001 %s: %v", c.fun, e)
		}
		byCall, _ := askStart(t, x, "c", whole(9))
		a, left := byNew.run(50)
		b, rest := byCall.run(51)
		if !alikeEvents(a, b) || left != rest {
			t.Errorf("P1001 %s: %s, %d left by New; %s, %d left by a call", c.fun, told(a), left, told(b), rest)
		}
	}
}

// Terms that are not right: told only where there is such a fun or function.
func TestP1001WrongTerms(t *testing.T) {
	x := treeOf(t, "f(X, Y) -> fun(A, B) -> {A, B} end. g() -> 1.")
	f := fun(places(x, api.NFun)[0])
	for _, y := range wrong() {
		for _, l := range [][]api.Term{{y, whole(1)}, {whole(1), y}, {y, y}} {
			if m, e := eval.Start(x, "f", l, 1); m != nil || e != api.ErrTerm {
				t.Errorf("P1001 Start: %v; want term", e)
			}
			if m, e := eval.New(x, f, l, 1); m != nil || e != api.ErrTerm {
				t.Errorf("P1001 New: %v; want term", e)
			}
			if m, e := eval.Start(x, "g", l, 1); m != nil || e != api.ErrNone {
				t.Errorf("P6 Start: %v; want none", e)
			}
			if m, e := eval.New(x, atom("f"), l, 1); m != nil || e != api.ErrBad {
				t.Errorf("P6 New: %v; want badarg", e)
			}
			if m, e := eval.New(x, f, l[:1], 1); m != nil || e != api.ErrBad {
				t.Errorf("P6 New: %v; want badarg", e)
			}
		}
		if m, e := eval.New(x, y, []api.Term{whole(1), whole(2)}, 1); m != nil || e != api.ErrBad {
			t.Errorf("P1001 New of what is no right term: %v; want badarg", e)
		}
	}
	for _, y := range []api.Term{{Kind: api.KFun, N: f.N, S: "a"}, {Kind: api.KFun, N: f.N, F: 1}} {
		if m, e := eval.New(x, y, []api.Term{whole(1), whole(2)}, 1); m != nil || e != api.ErrBad {
			t.Errorf("P1001 New of a fun that is no right term: %v; want badarg", e)
		}
	}
	g := treeOf(t, "f(X) -> fun() -> X end.")
	for _, y := range wrong() {
		if m, e := eval.New(g, fun(places(g, api.NFun)[0], y), nil, 1); m != nil || e != api.ErrBad {
			t.Errorf("P1001 New of a fun with a wrong term: %v; want badarg", e)
		}
	}
}

// Which process it is changes nothing that a machine tells: self asks.
func TestP1001Self(t *testing.T) {
	x := treeOf(t, "f(X) when is_pid(X) -> 1; f(X) -> {self(), X}.")
	for _, self := range []int{0, 1, -1, 1 << 40, -1 << 63, 1<<63 - 1} {
		m, e := eval.Start(x, "f", []api.Term{whole(1)}, self)
		if e != api.OK {
			t.Fatalf("P1001 Start of %d: %v", self, e)
		}
		if y, _ := m.Run(2); told(y) != "ask self []" {
			t.Errorf("P1002 of %d: %s", self, told(y))
		}
	}
}

// Two machines of one tree have nothing in common; one that Parse told alone, too.
func TestP7Apart(t *testing.T) {
	x, _ := gram.Parse("-module(m). f(X) -> Y = out(X), receive Z -> {X, Y, Z} end.")
	var all []*eval.Machine
	for i := range 4 {
		m, _ := eval.Start(x, "f", []api.Term{whole(int64(i))}, 1)
		all = append(all, m)
	}
	for i, m := range all {
		if y, _ := m.Run(2 + i); told(y) != "ask out ["+said(whole(int64(i)))+"]" {
			t.Errorf("P7 %d: %s", i, told(y))
		}
	}
	for i, m := range all {
		m.Give(atom([]string{"a", "b", "c", "d"}[i]))
	}
	for i, m := range all {
		m.Run(0)
		m.Offer(list(whole(int64(-i))))
	}
	for i, want := range []string{"{0,a,[0]}", "{1,b,[-1]}", "{2,c,[-2]}", "{3,d,[-3]}"} {
		if y, _ := all[i].Run(0); told(y) != want {
			t.Errorf("P7 %d: %s; want %s", i, told(y), want)
		}
	}
}
