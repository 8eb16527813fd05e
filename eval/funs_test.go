package eval_test

import (
	"fmt"
	"testing"

	"exitwave/api"
	"exitwave/eval"
)

func TestP1002Funs(t *testing.T) {
	for _, c := range []struct{ expr, want string }{
		{"(fun() -> 1 end)()", "1"}, {"(fun(X) -> X end)(2)", "2"}, {"(fun(X, Y) -> {Y, X} end)(1, 2)", "{2,1}"}, {"(fun twice/1)(4)", "8"}, {"(fun none/0)()", "none"}, {"F = fun twice/1, F(F(1))", "4"}, {"(fun only/1)(3)", "error function_clause"},
		{"(fun(1) -> a; (2) -> b end)(2)", "b"}, {"(fun(1) -> 2 end)(3)", "error function_clause"}, {"(fun(X) when X > 1 -> a; (X) when X < 1 -> b end)(1)", "error function_clause"}, {"(fun(X) when X > 1 -> a; (X) -> {X} end)(1)", "{1}"},
		{"(a)()", "error badfun"}, {"(1)(2, 3)", "error badfun"}, {"({})()", "error badfun"}, {"(\"f\")()", "error badfun"}, {"F = none(), F(exit(a))", "exit a"},
		{"(fun(X) -> X end)()", "error badarity"}, {"(fun() -> 1 end)(1)", "error badarity"}, {"(fun twice/1)()", "error badarity"}, {"(fun twice/1)(1, 2)", "error badarity"}, {"(fun(_, _) -> 1 end)(1)", "error badarity"},
		{"Y = 5, F = fun(X) -> X + Y end, F(2)", "7"}, {"Y = 5, F = fun(X) -> Y = X end, F(5)", "5"}, {"Y = 5, F = fun(X) -> Y = X end, F(6)", "error badmatch"}, {"Y = 5, (fun({X, 1}) when X == Y -> a; (_) -> b end)({5, 1})", "a"},
		{"X = 1, (fun(X) -> X end)(2)", "2"}, {"X = 1, F = fun(X) -> X end, {F(2), X}", "{2,1}"}, {"X = 1, F = fun({X, X}) -> X; (Y) -> {Y, X} end, {F({3, 3}), F({3, 4}), F(X)}", "{3,{{3,4},1},{1,1}}"},
		{"X = 1, Y = 2, F = fun([X | _]) -> {X, Y}; (Z = {_, Y}) -> {X, Y, Z}; (\"a\" = X) -> X end, {F([7]), F({1, 8})}", "{{7,2},{1,8,{1,8}}}"}, {"X = 1, (fun(X, Y) when X == Y -> a; (_, Y) when X == Y -> b; (_, _) -> c end)(3, 1)", "b"},
		{"X = 1, (fun(_) -> (fun(X) -> X end)(2) + X end)(0)", "3"}, {"X = 1, (fun(X) -> (fun() -> X end)() end)(2)", "2"}, {"X = 1, (fun(Y) -> (fun(X) -> {X, Y} end)(3) end)(2)", "{3,2}"}, {"A = 1, B = 2, C = 3, (fun() -> {C, A, B} end)()", "{3,1,2}"},
		{"F = fun(G, N) -> case N of 0 -> done; _ -> G(G, N - 1) end end, F(F, 50)", "done"}, {"Adder = fun(N) -> fun(X) -> X + N end end, Two = Adder(2), Two(40)", "42"}, {"(fun(X) -> fun(Y) -> {X, Y} end end)(1)(2)", "{1,2}"},
		{"F = fun(X) -> Y = X, Y end, Y = 7, {F(1), F(2), Y}", "{1,2,7}"}, {"(fun(X) -> exit(X) end)(a)", "exit a"}, {"F = fun(_) -> out(1) end, catch F(1, 2)", "{'EXIT',badarity}"}, {"{(fun() -> X = 1, X end)(), X = 2, X}", "{1,2,2}"},
		{"fun twice/1 =:= fun twice/1", "false"}, {"F = fun twice/1, F =:= F", "true"}, {"F = fun(X) -> fun() -> X end end, {F(1) == F(1), F(1) =:= F(1.0)}", "{true,false}"},
	} {
		expectExpr(t, c.expr, c.want)
	}
}

// What a fun is as a term: its place, and the values of its variables, in the order of check.Free.
func TestP1002FunTerms(t *testing.T) {
	x := treeOf(t, "f(X, Y) -> fun(Z) -> Y + X + Z end. g() -> fun f/2.")
	n, named := places(x, api.NFun)[0], places(x, api.NFunName)[0]
	m, _ := askStart(t, x, "f", atom("x"), atom("y"))
	m.stops(fmt.Sprintf("#Fun%d[y,x]", n))
	m, _ = askStart(t, x, "g")
	m.stops(fmt.Sprintf("#Fun%d", named))
	for _, c := range []struct {
		functions string
		which     int // of the funs
		want      string
	}{
		{"f(X) -> fun(X) -> X end.", 0, "[7]"},
		{"f(X) -> fun() -> Y = X, Y end.", 0, "[7]"},
		{"f(_) -> fun(X) -> X end.", 0, ""},
		{"f(X) -> try 1 of Y -> fun() -> {X, Y} end catch _:Z -> fun() -> {Z, X} end end.", 0, "[7,1]"},
		{"f(X) -> try error(1) of Y -> fun() -> {X, Y} end catch _:Z -> fun() -> {Z, X} end end.", 1, "[1,7]"},
		{"f(X) -> case X of {Y, _} -> 1; Y -> 2 end, Z = 3, fun(A) -> fun() -> {Z, Y, A, X} end end.", 1, "[3,7,7]"},
		{"f(X) -> Y = 2, (fun(A) -> fun() -> {Y, A, X} end end)(1).", 0, "[2,1,7]"},
	} {
		place := places(treeOf(t, c.functions), api.NFun)[c.which]
		start(t, c.functions, "f", whole(7)).stops(fmt.Sprintf("#Fun%d%s", place, c.want))
	}
}

// A fun of a tree is any term that has its form, whoever made it; what has another form is none.
func TestP1002FunsFromOutside(t *testing.T) {
	const functions = "f(F) -> F(). g(X, Y) -> fun() -> {Y, X} end. h() -> fun k/0. k() -> called. i(_) -> fun(_) -> 1 end."
	x := treeOf(t, functions)
	two, one := places(x, api.NFun)[0], places(x, api.NFun)[1]
	name := places(x, api.NFunName)[0]
	for _, c := range []struct {
		f    api.Term
		want string
	}{
		{fun(two, atom("a"), whole(2)), "{a,2}"}, {fun(two, list(), fun(two)), fmt.Sprintf("{[],#Fun%d}", two)}, {fun(two), "error badfun"}, {fun(two, whole(1)), "error badfun"}, {fun(two, whole(1), whole(2), whole(3)), "error badfun"},
		{fun(name), "called"}, {fun(name, whole(1)), "error badfun"}, {fun(one), "error badarity"}, {fun(one, whole(1)), "error badfun"}, {fun(two + 1), "error badfun"}, {fun(len(x.Nodes) - 1), "error badfun"}, {fun(len(x.Nodes)), "error badfun"}, {fun(api.MaxNodes), "error badfun"}, {fun(0), "error badfun"},
		{pid(int64(name)), "error badfun"}, {ref(int64(name)), "error badfun"}, {whole(int64(name)), "error badfun"},
	} {
		m, _ := askStart(t, x, "f", c.f)
		if got, left := m.run(10); told(got) != c.want || left != 8 {
			t.Errorf("P1002 %s(): %s, %d left; want %s, 8", said(c.f), told(got), left, c.want)
		}
	}
}

func TestArity(t *testing.T) {
	x := treeOf(t, "f(X, Y) -> {fun() -> X end, fun(_) -> {Y, X} end, fun(A, _) -> A; (X, X) -> X end, fun f/2, fun g/0, fun(X) -> X end}. g() -> 1.")
	funs, names := places(x, api.NFun), places(x, api.NFunName)
	is := map[int]map[int]int{ // of a place: with so many L so many arguments
		funs[0]: {1: 0}, funs[1]: {2: 1}, funs[2]: {1: 2}, funs[3]: {1: 1}, names[0]: {0: 2}, names[1]: {0: 0},
	}
	for n := range len(x.Nodes) + 3 {
		for l := range 4 {
			want, fits := is[n][l]
			if !fits {
				want = -1
			}
			if got := askArity(t, x, fun(n, times(l, atom("a"))...)); got != want {
				t.Errorf("Arity of the place %d with %d L: %d; want %d", n, l, got, want)
			}
		}
	}
	for _, y := range kinds() {
		if y.Kind != api.KFun && askArity(t, x, y) != -1 {
			t.Errorf("Arity of %s", said(y))
		}
	}
	for _, y := range wrong() {
		y.N = int64(funs[0])
		if got := eval.Arity(x, y); got != -1 {
			t.Errorf("Arity of what is no right term: %d", got)
		}
	}
	for _, y := range []api.Term{{Kind: api.KFun, N: int64(names[0]), S: "a"}, {Kind: api.KFun, N: int64(names[0]), F: 1}, fun(funs[0], api.Term{}), fun(funs[0], nested(api.KList, api.MaxDepth, list()))} {
		if got := eval.Arity(x, y); got != -1 {
			t.Errorf("Arity of what is no right term: %d", got)
		}
	}
}
