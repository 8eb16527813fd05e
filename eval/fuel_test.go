package eval_test

import (
	"math"
	"math/rand"
	"testing"

	"exitwave/api"
	"exitwave/eval"
)

// costs: expressions, and how many calls they make.
var costs = []struct {
	expr string
	n    int
	want string
}{
	{"1", 0, "1"}, {"{1, [2 + 3]}", 0, "{1,[5]}"}, {"X = 1, Y = X, {X, Y}", 0, "{1,1}"}, {"case 1 of X when is_atom(X) -> 1; X when abs(X) == 1, length([]) == 0 -> 2 end", 0, "2"}, {"fun(X) -> twice(X) end, 1", 0, "1"}, {"fun twice/1, 1", 0, "1"},
	{"try 1 catch _:_ -> twice(1) end", 0, "1"}, {"catch 1 + a", 0, "{'EXIT',badarith}"}, {"true orelse twice(1)", 0, "true"}, {"- - 1", 0, "1"}, {"1 = 2", 0, "error badmatch"},
	{"twice(1)", 1, "2"}, {"abs(-1)", 1, "1"}, {"length(a)", 1, "error badarg"}, {"none()", 1, "none"}, {"exit(a)", 1, "exit a"}, {"throw(a)", 1, "throw a"}, {"error(a)", 1, "error a"}, {"only(1)", 1, "error function_clause"}, {"(fun() -> 1 end)()", 1, "1"}, {"(fun none/0)()", 1, "none"},
	{"(a)()", 1, "error badfun"}, {"(fun none/0)(1)", 1, "error badarity"}, {"(fun(1) -> 2 end)(2)", 1, "error function_clause"}, {"catch (a)(1)", 1, "{'EXIT',badfun}"}, {"catch exit(a)", 1, "{'EXIT',a}"}, {"try throw(1) catch X -> X end", 1, "1"}, {"try 1 after none() end", 1, "1"},
	{"twice(twice(1))", 2, "4"}, {"{twice(1), none()}", 2, "{2,none}"}, {"try exit(a) after none() end", 2, "exit a"}, {"try throw(a) catch a -> none() after none() end", 3, "none"}, {"fact(3)", 4, "6"}, {"length(tl([1]))", 2, "0"}, {"F = fun(X) -> twice(X) end, F(F(1))", 4, "4"}, {"exit(exit(a))", 1, "exit a"}, {"twice(1), twice(2), twice(3)", 3, "6"},
	{"true andalso none()", 1, "none"}, {"is_list([]) andalso none()", 2, "none"}, {"case none() of none -> none() end", 2, "none"}, {"[none() | tl([1])]", 2, "[none]"}, {"(hd([fun none/0]))()", 2, "none"},
}

func TestP1005Costs(t *testing.T) {
	for _, c := range costs {
		from := func() *machine { return start(t, "f() -> "+c.expr+"."+helpers, "f") }
		need := c.n + 1 // and the call of f
		from().expect(need, c.want, 0)
		from().expect(need+9, c.want, 9)
		from().expect(math.MaxInt32, c.want, math.MaxInt32-need)
		for less := range need {
			m := from()
			m.expect(less, "spent", 0)
			m.expect(0, "spent", 0)
			m.expect(-1, "spent", 0)
			m.expect(math.MinInt, "spent", 0)
			m.expect(need-less, c.want, 0)
			m = from()
			m.expect(less, "spent", 0)
			m.expect(need-less+2, c.want, 2)
		}
	}
}

// The arguments of a call are reckoned ahead of the stop: what they ask was asked, and is not asked again.
func TestP1002SpentBehindArguments(t *testing.T) {
	m := start(t, "f() -> pair(out(1), out(2)). pair(X, Y) -> {X, Y}.", "f")
	m.expect(0, "spent", 0)
	m.expect(1, "spent", 0)
	m.expect(1, "ask out [1]", 0)
	m.gives(atom("a"))
	m.expect(0, "spent", 0)
	m.expect(2, "ask out [2]", 1)
	m.gives(atom("b"))
	m.expect(0, "spent", 0)
	m.expect(-7, "spent", 0)
	m.expect(1, "{a,b}", 0)
	m = start(t, "f() -> receive X -> g(X) end. g(X) -> {X}.", "f")
	m.expect(1, "wait", 0)
	m.offers(whole(3), true)
	m.expect(0, "spent", 0)
	m.expect(5, "{3}", 4)
	m = start(t, "f() -> abs(exit(a)).", "f")
	m.expect(2, "exit a", 0)
}

func TestP1006Loops(t *testing.T) {
	for _, functions := range []string{"f() -> f().", "f() -> g(). g() -> f().", "f() -> catch throw(a), f().", "f() -> (fun f/0)().", "f() -> try throw(f) catch f -> 1 end, f().", "f() -> case abs(1) of 1 -> f() end.", "f() -> F = fun(G) -> G(G) end, F(F).", "f() -> true andalso f()."} {
		for _, fuel := range []int{0, 1, 2, 3, 1000, api.MaxFuel} {
			m, e := eval.Start(treeOf(t, functions), "f", nil, 1)
			if e != api.OK {
				t.Fatalf("P1001 %s: %v", functions, e)
			}
			if x, left := m.Run(fuel); told(x) != "spent" || left != 0 {
				t.Errorf("P1006 %s: %s, %d left of %d", functions, told(x), left, fuel)
			}
		}
	}
}

// Fuel that is cut by chance, up to each ask, in one machine, and in one go in another one.
func TestP1005Cut(t *testing.T) {
	r := rand.New(rand.NewSource(1005))
	const functions = "f(0, L) -> L; f(N, L) -> X = out(N), f(N - 1, g(X, L)). g(X, L) -> try h(X, L) catch bad -> L after abs(X) end. h(X, L) when X rem 3 == 0 -> throw(bad); h(X, L) -> [X * 2 | L]."
	x := treeOf(t, functions)
	for range 50 {
		a, _ := eval.Start(x, "f", []api.Term{whole(20), list()}, 1)
		b, _ := eval.Start(x, "f", []api.Term{whole(20), list()}, 1)
		for {
			total, spent := 100, 0
			one, left := a.Run(total)
			two, rest := api.Event{Kind: api.VSpent}, 0
			for two.Kind == api.VSpent && spent < total {
				piece := min(r.Intn(7)-1, total-spent)
				two, rest = b.Run(piece)
				spent += max(piece, 0) - rest
			}
			if !alikeEvents(one, two) || total-spent != left {
				t.Fatalf("P1005 %s, %d left; in pieces %s, %d left", told(one), left, told(two), total-spent)
			}
			if one.Kind != api.VAsk {
				if one.Kind != api.VDone || len(one.Term.L) != 14 {
					t.Fatalf("P1005 %s", told(one))
				}
				break
			}
			a.Give(one.L[0])
			b.Give(two.L[0])
		}
	}
}
