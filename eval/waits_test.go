package eval_test

import (
	"fmt"
	"strings"
	"testing"

	"exitwave/api"
	"exitwave/eval"
)

// most is how many nodes may wait.
const most = 10000

// ladder is a machine that goes one level down, into a call of f, by each `go` that it is offered.
type ladder struct {
	t *testing.T
	m *eval.Machine
}

// newLadder: in the form of a level @ is its receive, which takes what other says, too.
func newLadder(t *testing.T, form, other, more string) *ladder {
	t.Helper()
	receive := "receive go -> f()" + other + " end"
	x := treeOf(t, "f() -> "+strings.Replace(form, "@", receive, 1)+"."+more+helpers)
	m, e := eval.Start(x, "f", nil, 1)
	if e != api.OK {
		t.Fatalf("P1001 %s: %v", form, e)
	}
	return &ladder{t, m}
}

// down goes so many levels down, or until the machine stops otherwise: how many levels had a receive that waited, and with what it stopped.
func (l *ladder) down(n int) (levels int, x api.Event) {
	l.t.Helper()
	for {
		x, _ = l.m.Run(3)
		if x.Kind == api.VWait && x.Zero {
			l.m.After()
			continue
		}
		if x.Kind != api.VWait || levels == n {
			return levels, x
		}
		levels++
		l.offer(atom("go"))
	}
}

func (l *ladder) offer(x api.Term) {
	l.t.Helper()
	if is, e := l.m.Offer(x); !is || e != api.OK {
		l.t.Fatalf("P1004 Offer %s: %v, %v", said(x), is, e)
	}
}

// 10000 nodes of each kind wait, and no more.
func TestP1002Waits(t *testing.T) {
	for _, form := range []string{
		"{@}", "{1, @}", "{@, 1}", "[@]", "[1, @]", "[@ | []]", "[1 | @]", "[1, @ | []]",
		"twice(@)", "length(@)", "pair(@, 1)", "pair(1, @)", "exit(@)", "out(@)", "monitor(1, @)", "(@)()", "(1)(@)", "(1)(@, 2)", "(1)(2, @)",
		"- (@)", "not (@)", "(@) + 1", "1 + (@)", "(@) ! 1", "1 ! (@)", "(@) =:= 1", "1 ++ (@)", "(@) andalso 1", "(@) orelse 1",
		"_ = @", "{_, _} = @", "begin @, 1 end", "@, 1", "1, @, 2", "case @ of _ -> 1 end",
		"try @ catch x -> 1 end", "try 1 of 1 -> @ catch x -> 1 end", "try 1 after @ end", "try exit(a) after @ end", "try @ after 1 end",
	} {
		if levels, x := newLadder(t, form, "", "").down(most + 5); levels != most || told(x) != "error system_limit" {
			t.Errorf("P1002 %s: %s behind %d levels; want error system_limit behind %d", form, told(x), levels, most)
		}
	}
	// What waits for a short time only lets one level less be.
	for _, form := range []string{"try 1, @ of _ -> 2 catch x -> 1 end", "try 1 of 1 -> 2, @ catch x -> 1 end", "try throw(a) catch a -> @ end", "try 1 after 2, @ end", "{{}, {1}, @}"} {
		if levels, x := newLadder(t, form, "", "").down(most + 5); levels != most-1 || told(x) != "error system_limit" {
			t.Errorf("P1002 %s: %s behind %d levels; want error system_limit behind %d", form, told(x), levels, most-1)
		}
	}
	for _, c := range []struct {
		form  string
		nodes int // that wait in a level
		want  string
	}{
		{"{[@]}", 2, "error system_limit"}, {"{-1, - 1.5, @}, 2, 3", 2, "error system_limit"}, {"try @, 1 of _ -> 2 catch x -> 1 end", 2, "error system_limit"}, {"begin @, 1 end, 2", 2, "error system_limit"}, {"_ = begin 1, _ = @, 1 end", 3, "error system_limit"}, {"catch @", 1, "{'EXIT',system_limit}"}, {"catch begin @ end", 1, "{'EXIT',system_limit}"}, {"_ = catch @", 2, "{'EXIT',system_limit}"},
		{"try @ catch error:system_limit -> none end", 1, "none"}, {"try try @ after 1 end catch error:X -> X end", 2, "system_limit"}, {"case @ of X -> {X, X, a} end", 1, "error system_limit"},
	} {
		want := most / c.nodes
		if levels, x := newLadder(t, c.form, "", "").down(most + 5); levels != want || told(x) != c.want {
			t.Errorf("P1002 %s: %s behind %d levels; want %s behind %d", c.form, told(x), levels, c.want, want)
		}
	}
}

// What is last does not wait, however long it goes on.
func TestP1002NothingWaits(t *testing.T) {
	for _, form := range []string{
		"@", "1, @", "1, 2, @", "begin 1, @ end", "begin @ end", "true andalso (@)", "false orelse (@)", "true andalso (false orelse (@))", "case 1 of 2 -> 3; _ -> @ end", "case 1 of _ -> 2, @ end", "(fun() -> @ end)()", "(fun(_) -> 1, @ end)(2)",
		"X = 1, (fun() -> X, @ end)()", "receive after 0 -> @ end", "receive after 0 -> 1, @ end", "receive a -> 1 after 0 -> @ end", "{1, [2]}, (try 1 after 2 end), (catch 3), @",
	} {
		if levels, x := newLadder(t, form, "", "").down(most + 1000); levels != most+1000 || told(x) != "wait" {
			t.Errorf("P1002 %s: %s behind %d levels: nothing waits there", form, told(x), levels)
		}
	}
	start(t, "f(N) -> case N of 0 -> done; _ -> f(N - 1) end.", "f", whole(30000)).expect(40000, "done", 9999)
	start(t, "f(F, N) -> case N of 0 -> done; _ -> F(F, N - 1) end. g() -> f(fun f/2, 15000).", "g").expect(40000, "done", 24998)
	start(t, "f(0) -> done; f(N) -> true andalso g(N). g(N) -> begin 1, f(N - 1) end.", "f", whole(11000)).expect(40000, "done", 17999)
}

// What is reckoned where so many more may wait, and how many it needs.
var needs = []struct {
	expr string
	more int
	want string
}{
	{"1", 0, "1"}, {"a", 0, "a"}, {"\"a\"", 0, "[97]"}, {"1.5", 0, "#3ff8000000000000"}, {"-1", 0, "-1"}, {"-1.5", 0, "#bff8000000000000"}, {"Zero", 0, "0"}, {"{}", 0, "{}"}, {"[]", 0, "[]"}, {"none()", 0, "none"}, {"begin a end", 0, "a"}, {"begin begin b end end", 0, "b"},
	{"{1}", 1, "{1}"}, {"[1]", 1, "[1]"}, {"[1 | []]", 1, "[1]"}, {"1 + 1", 1, "2"}, {"- Zero", 1, "0"}, {"not true", 1, "false"}, {"twice(3)", 1, "6"}, {"length([])", 1, "0"}, {"exit(a)", 1, "{'EXIT',a}"}, {"throw(a)", 1, "a"}, {"(fun none/0)()", 1, "none"}, {"(fun() -> {} end)()", 1, "{}"}, {"(fun twice/1)(4)", 1, "8"},
	{"true andalso 1", 1, "1"}, {"false andalso 1", 1, "false"}, {"true andalso - Zero", 1, "0"}, {"true orelse 1", 1, "true"}, {"_ = 1", 1, "1"}, {"catch 1", 1, "1"}, {"begin 1, 2 end", 1, "2"}, {"begin 1, 2, 3 end", 1, "3"}, {"case 1 of _ -> 2 end", 1, "2"}, {"case 1 of X when X + 1 + 1 == 3, is_atom(hd([a | []])) -> {X} end", 1, "{1}"},
	{"try 1 catch x -> 2 end", 1, "1"}, {"try 1 of 1 -> 2 after 3 end", 1, "2"}, {"try {1} of {X} -> X catch x -> 2 end", 2, "1"}, {"try 1 of 1 -> {2} after 3 end", 2, "{2}"}, {"try 1 after {3} end", 2, "1"}, {"try throw(a) catch a -> 1 end", 2, "1"}, {"try throw(a) catch a -> {{1}} end", 3, "{{1}}"},
	{"{{1}}", 2, "{{1}}"}, {"[1, [2], 3]", 2, "[1,[2],3]"}, {"twice(1 + 1)", 2, "4"}, {"begin {1}, 2 end", 2, "2"}, {"begin 1, {2} end", 1, "{2}"}, {"case {1} of {X} -> X end", 2, "1"}, {"case 1 of X -> {X} end", 1, "{1}"}, {"{{{1}}, {{2}}}", 3, "{{{1}},{{2}}}"}, {"fact(1)", 3, "1"},
	{"true andalso (true andalso 2)", 1, "2"}, {"(true andalso true) andalso 2", 2, "2"}, {"_ = _ = 1", 2, "1"}, {"{1, {}, []}", 1, "{1,{},[]}"}, {"{none(), 1}", 1, "{none,1}"}, {"(fun(X) -> X + 1 end)(1)", 1, "2"}, {"(1 + 1) + 1", 2, "3"}, {"self()", 0, "given"}, {"link(1)", 1, "given"}, {"1 ! 2", 1, "given"}, {"make_ref() ! 2", 1, "given"},
	{"receive {I, 7} -> I; _ -> 1 end", 0, "1"}, {"receive _ -> {1} end", 1, "{1}"}, {"fun() -> Zero end == 1", 1, "false"},
}

// catches do not end for the node too many: what they tell with room for none, one, .. more.
var catches = []struct {
	expr string
	want []string
}{
	{"catch {1}", []string{"no", "no", "{1}"}}, {"{1, catch throw(2)}", []string{"no", "no", "{1,no}", "{1,2}"}}, {"catch {catch 1 + 1}", []string{"no", "no", "no", "{no}", "{2}"}}, {"try {1} catch error:X -> X end", []string{"no", "system_limit", "{1}"}}, {"try {1} catch error:_ -> [1] end", []string{"no", "no", "{1}"}},
	{"try 1 of 1 -> {2} catch error:X -> X end", []string{"no", "no", "{2}"}}, {"try {{1}} catch error:_ -> [1] end", []string{"no", "no", "[1]", "{{1}}"}}, {"try 1 after (catch {1}) end", []string{"no", "no", "1", "1"}},
}

// At the bound: with 10000 that wait, 9999, and so on, an expression that needs none, one, .. more.
func TestP1002WaitsAtTheBound(t *testing.T) {
	bottom := "; bottom -> b()"
	b := " b() -> case catch c() of X -> out(X), b() end. c() -> receive "
	for i, c := range needs {
		b += fmt.Sprintf("{need, %d, Zero} -> %s;", i, strings.ReplaceAll(c.expr, "Zero", "(Zero)"))
	}
	for i, c := range catches {
		b += fmt.Sprintf("{catches, %d} -> %s;", i, c.expr)
	}
	b += "_ -> none end."
	for room := range 5 {
		l := newLadder(t, "_ = @", bottom, b)
		// The case and the catch of b wait, too.
		if levels, x := l.down(most - room - 3); x.Kind != api.VWait {
			t.Fatalf("P1002 %s behind %d levels", told(x), levels)
		}
		l.offer(atom("bottom"))
		for i, c := range needs {
			want := c.want
			if room < c.more {
				want = "{'EXIT',system_limit}"
			}
			l.tells(c.expr, room, tuple(atom("need"), whole(int64(i)), whole(0)), want)
		}
		for i, c := range catches {
			want := c.want[min(room, len(c.want)-1)]
			l.tells(c.expr, room, tuple(atom("catches"), whole(int64(i))), strings.ReplaceAll(want, "no", "{'EXIT',system_limit}"))
		}
	}
}

// tells asks for what an expression at the bottom tells.
func (l *ladder) tells(expr string, room int, which api.Term, want string) {
	l.t.Helper()
	if x, _ := l.m.Run(50); told(x) != "wait" {
		l.t.Fatalf("P1002 %s with room for %d: %s", expr, room, told(x))
	}
	l.offer(which)
	x, _ := l.m.Run(50)
	for x.Kind == api.VWait || x.Kind == api.VAsk && x.S != "out" {
		if x.Kind == api.VWait {
			l.offer(which)
		} else {
			l.m.Give(atom("given"))
		}
		x, _ = l.m.Run(50)
	}
	if told(x) != "ask out ["+want+"]" {
		l.t.Errorf("P1002 %s with room for %d: %s; want %s", expr, room, told(x), want)
	}
	l.m.Give(atom("ok"))
}
