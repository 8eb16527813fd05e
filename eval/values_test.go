package eval_test

import (
	"strings"
	"testing"

	"exitwave/api"
)

func TestP1002Literals(t *testing.T) {
	for _, c := range []struct{ expr, want string }{
		{"1", "1"}, {"0", "0"}, {"576460752303423487", "576460752303423487"}, {"-576460752303423487", "-576460752303423487"}, {"-7", "-7"}, {"- - 7", "7"},
		{"1.5", "#3ff8000000000000"}, {"-0.0", "#8000000000000000"}, {"0.0", "#0000000000000000"}, {"a", "a"}, {"'A b'", "'A b'"}, {"''", "''"}, {`"ab"`, "[97,98]"}, {`""`, "[]"},
		{"{}", "{}"}, {"[]", "[]"}, {"{1, a}", "{1,a}"}, {"[1, a]", "[1,a]"}, {"{{1}, [{}]}", "{{1},[{}]}"},
		{"[1 | [2]]", "[1,2]"}, {"[1, 2 | []]", "[1,2]"}, {"[1 | \"a\"]", "[1,97]"}, {"[[] | []]", "[[]]"},
		{"[1 | 2]", "error badarg"}, {"[1 | a]", "error badarg"}, {"[1 | {}]", "error badarg"}, {"[1, 2 | none()]", "error badarg"}, {"[1 | [2 | [3 | []]]]", "[1,2,3]"},
		{"begin 1 end", "1"}, {"begin 1, 2, 3 end", "3"}, {"(((4)))", "4"}, {"begin begin 1, 2 end, begin 3 end end", "3"},
	} {
		expectExpr(t, c.expr, c.want)
	}
}

func TestP1002Variables(t *testing.T) {
	for _, x := range kinds() {
		expectOf(t, "X", x, said(x))
		expectOf(t, "Y = X, Y", x, said(x))
	}
	expectExpr(t, "X = 1, Y = 2, {Y, X}", "{2,1}")
	expectExpr(t, "{X = 1, X}", "{1,1}")
	expectExpr(t, "[X = 1, X | [X]]", "[1,1,1]")
	expectExpr(t, "[1 | X = [2]], X", "[2]")
	expectExpr(t, "{twice(X = 3), X}", "{6,3}")
	expectExpr(t, "(X = 2) * X", "4")
	expectExpr(t, "pair(X = 2, X)", "{2,2}")
	expectExpr(t, "begin X = 2 end, X", "2")
	expectExpr(t, "((F = fun(A) -> A end))(X = F), F(X = X) =:= X", "true")
	expectExpr(t, "_ = 1, _ = 2", "2")
}

// Each part is reckoned once, from the left to the right: what it asks tells when.
func TestP1002FromTheLeft(t *testing.T) {
	for _, c := range []struct {
		expr string
		n    int
		want string
	}{
		{"{A, B, C}", 3, "{1,2,3}"}, {"[A, B, C]", 3, "[1,2,3]"}, {"[A, B | [C]]", 3, "[1,2,3]"}, {"pair(A, B)", 2, "{1,2}"}, {"A - B", 2, "-1"}, {"- A", 1, "-1"},
		{"min(A, B)", 2, "1"}, {"begin A, B, C end", 3, "3"}, {"case A of 1 -> B end", 2, "2"}, {"case A of 2 -> B; 1 -> {C} end", 2, "{2}"}, {"1 = A", 1, "1"}, {"catch A", 1, "1"},
		{"(is_list(A)) orelse B", 2, "2"}, {"(is_list(A)) andalso B", 1, "false"}, {"[A | [B | [C]]]", 3, "[1,2,3]"}, {"{{A}, {B}}", 2, "{{1},{2}}"},
		{"try A of X -> {X, B} after C end", 3, "{1,2}"}, {"try throw(A) catch X -> {X, B} after C end", 3, "{1,2}"}, {"begin F = fun(X, Y) -> {X, Y} end, F(A, B) end", 2, "{1,2}"},
	} {
		expr := c.expr
		for _, name := range []string{"A", "B", "C"} {
			expr = strings.ReplaceAll(expr, name, "out("+strings.ToLower(name)+")")
		}
		m := start(t, "f() -> "+expr+"."+helpers, "f")
		for i := range c.n {
			x, _ := m.run(plenty)
			if x.Kind != api.VAsk || x.S != "out" {
				t.Fatalf("P1002 %s: %s; want the ask number %d", expr, told(x), i+1)
			}
			m.gives(whole(int64(i + 1)))
		}
		m.stops(c.want)
	}
	m := start(t, "f() -> (whereis(a))(whereis(b), whereis(c)).", "f")
	for _, name := range []string{"a", "b", "c"} {
		m.stops("ask whereis [" + name + "]")
		m.gives(atom(name))
	}
	m.stops("error badfun")
	m = start(t, "f() -> whereis(a) ! whereis(b).", "f")
	m.stops("ask whereis [a]")
	m.gives(pid(4))
	m.stops("ask whereis [b]")
	m.gives(list(whole(5)))
	m.stops("ask send [#Pid4,[5]]")
	m.gives(atom("x"))
	m.stops("x")
}

// What raises ends what is under way: nothing to the right of it is reckoned.
func TestP1002RaisesEnd(t *testing.T) {
	for _, expr := range []string{
		"{exit(a), out(1)}", "[exit(a), out(1)]", "[exit(a) | out(1)]", "[1 | exit(a)]", "pair(exit(a), out(1))", "exit(a) + out(1)", "exit(a) ! out(1)", "1 ! exit(a)", "- exit(a)", "not exit(a)",
		"begin exit(a), out(1) end", "case exit(a) of _ -> out(1) end", "case 1 of _ -> exit(a) end", "_ = exit(a)", "exit(a) andalso out(1)", "true andalso exit(a)", "false orelse exit(a)",
		"(exit(a))(out(1))", "none(exit(a))", "(none())(exit(a))", "exit(exit(a))", "throw(exit(a))", "out(exit(a))", "length(exit(a))", "try exit(a) catch throw:_ -> out(1) end",
	} {
		expectExpr(t, strings.Replace(expr, "none(exit(a))", "only(exit(a))", 1), "exit a")
	}
}

func TestP1002Operators(t *testing.T) {
	for _, c := range []struct{ expr, want string }{
		{"1 + 2", "3"}, {"1 - 2", "-1"}, {"3 * 2", "6"}, {"3 / 2", "#3ff8000000000000"}, {"7 div 2", "3"}, {"-7 rem 2", "-1"}, {"1 == 1.0", "true"}, {"1 =:= 1.0", "false"}, {"1 /= 1.0", "false"}, {"1 =/= 1.0", "true"},
		{"1 < a", "true"}, {"1 > a", "false"}, {"1 =< 1", "true"}, {"1 >= 2", "false"}, {"[1] ++ [2]", "[1,2]"}, {"not true", "false"}, {"not false", "true"}, {"- none()", "error badarith"},
		{"1 + a", "error badarith"}, {"a + 1", "error badarith"}, {"1 / 0", "error badarith"}, {"1 div 0", "error badarith"}, {"1.0 div 1", "error badarith"}, {"not 1", "error badarg"}, {"[1] ++ 2", "error badarg"}, {"2 ++ [1]", "error badarg"},
		{"576460752303423487 + 1", "error system_limit"}, {"-576460752303423487 - 1", "-576460752303423488"}, {"- (-576460752303423487 - 1)", "error system_limit"}, {`bits("7fe0000000000000") * 10`, "error badarith"},
		{"begin X = 3, - X end", "-3"}, {"- twice(2)", "-4"},
	} {
		expectExpr(t, c.expr, c.want)
	}
}

func TestP1002Either(t *testing.T) {
	for _, first := range []string{"1", "a", "[]", "{true}", "\"true\"", "1.5", "fun none/0"} {
		expectExpr(t, first+" andalso out(1)", "error badarg")
		expectExpr(t, "("+first+") orelse out(1)", "error badarg")
	}
	for _, second := range []string{"1", "a", "true", "false", "[]", "{}"} {
		expectExpr(t, "true andalso "+second, second)
		expectExpr(t, "false orelse "+second, second)
		expectExpr(t, "false andalso "+second, "false")
		expectExpr(t, "true orelse "+second, "true")
	}
	expectExpr(t, "false andalso exit(a)", "false")
	expectExpr(t, "true orelse exit(a)", "true")
	expectExpr(t, "true andalso exit(a)", "exit a")
	expectExpr(t, "false orelse exit(a)", "exit a")
	expectExpr(t, "(X = true) andalso X", "true")
	expectExpr(t, "(X = false) orelse {X}", "{false}")
	expectExpr(t, "true andalso false orelse 1 > 0 andalso yes", "yes")
}

func TestP1002Matches(t *testing.T) {
	for _, c := range []struct{ expr, want string }{
		{"1 = 2", "error badmatch"}, {"1 = 1", "1"}, {"1 = 1.0", "error badmatch"}, {"0.0 = -0.0", "error badmatch"}, {"{X, Y} = {1, 2}, Y", "2"}, {"{X, X} = {1, 2}", "error badmatch"}, {"{X, X} = {1, 1}", "{1,1}"},
		{"[H | T] = [1, 2, 3], {H, T}", "{1,[2,3]}"}, {"[_, _ | T] = \"abc\", T", "[99]"}, {"[H | T] = []", "error badmatch"}, {"X = 1, X = 1", "1"}, {"X = 1, X = 2", "error badmatch"}, {"X = Y = 3, {X, Y}", "{3,3}"},
		{"{X, {Y}} = Z = {1, {2}}, {X, Y, Z}", "{1,2,{1,{2}}}"}, {"\"ab\" = [97, 98]", "[97,98]"}, {"-1 = 0 - 1", "-1"}, {"{X = Y, 2} = {1, 2}, {X, Y}", "{1,1}"}, {"a = {b}", "error badmatch"}, {"[X] = \"a\", X", "97"},
		{"1 = exit(a)", "exit a"}, {"X = 1, {X, Y} = {1, X}, Y", "1"}, {"{X, Y} = begin X = 1, {X, 2} end, Y", "2"}, {"{X, Y} = begin X = 1, {2, 2} end, Y", "error badmatch"},
	} {
		expectExpr(t, c.expr, c.want)
	}
}

func TestP1002Cases(t *testing.T) {
	for _, c := range []struct{ expr, want string }{
		{"case 1 of 2 -> 3 end", "error case_clause"}, {"case 1 of 1 -> a; 1 -> b end", "a"}, {"case 2 of 1 -> a; X -> {X}; _ -> c end", "{2}"}, {"case {1, 2} of {X, Y} when X > Y -> a; {X, Y} -> Y end", "2"},
		{"case 1 of X when X > 1 -> a; X when X == 1.0 -> b end", "b"}, {"case 1 of X when X > 1 -> a; X when hd(X) -> b end", "error case_clause"}, {"case 1 of X when X, true -> 1; _ -> 2 end", "2"}, {"case 1 of _ when true, 1 < 2 -> 1 end", "1"},
		{"X = 1, case 2 of X -> a; _ -> b end", "b"}, {"X = 1, case 1 of X -> a; _ -> b end", "a"}, {"case 1 of 1 -> X = a; _ -> X = b end, X", "a"}, {"case 2 of 1 -> X = a; _ -> X = b end, {X}", "{b}"},
		{"{case 5 of X -> 6 end, X}", "{6,5}"}, {"case (X = 1) of _ -> X end", "1"}, {"case 1 of X when is_atom(X) -> 1; X -> Y = X, Y end", "1"}, {"case [] of [_ | _] -> 1; [] -> 2 end", "2"},
		{"case {1, a} of {X, b} -> X; {Y, a} -> Y end", "1"}, {"case exit(a) of _ -> 1 end", "exit a"}, {"case case 1 of 1 -> 2 end of 2 -> 3 end", "3"}, {"case 1 of 1 -> 2, 3, exit(b) end", "exit b"},
	} {
		expectExpr(t, c.expr, c.want)
	}
}

// bound: a term at a bound, and what makes one more of it.
func TestP1002NotRight(t *testing.T) {
	deep := nested(api.KTuple, api.MaxDepth-1, whole(1))
	deepList := nested(api.KList, api.MaxDepth-1, whole(1))
	long := list(times(api.MaxWords/2, whole(1))...)
	const limit = "error system_limit"
	for _, expr := range []string{"{X}", "[X]", "[X | []]", "[1, X]", "{1, X}", "fun() -> X end", "[1 | X]", "[1, 2 | X]", "[X | X]"} {
		if !strings.HasSuffix(expr, "| X]") {
			expectOf(t, expr, deep, limit)
		}
		expectOf(t, expr, long, limit)
		expectOf(t, "try "+expr+" catch error:Y -> {Y} end", long, "{system_limit}")
	}
	expectOf(t, "[X | X]", deepList, limit)
	expectOf(t, "size([1 | X])", deepList, "400")
	shallow := nested(api.KTuple, api.MaxDepth-2, whole(1))
	for _, expr := range []string{"{X}", "[X]", "[X | []]", "{1, X}"} {
		expectOf(t, expr+", size(X)", shallow, "396")
	}
	expectOf(t, "fun() -> X end, size(X)", shallow, "396")
	short := list(times(api.MaxWords/2-1, whole(1))...)
	expectOf(t, "length([1 | X])", short, "32768")
	expectOf(t, "length([1, 2 | X])", short, limit)
	expectOf(t, "length(X ++ [1])", short, "32768")
	expectOf(t, "X ++ [1, 2]", short, limit)
	expectOf(t, "size({X})", short, "65536")
	expectOf(t, "{X, 1}", short, "error system_limit")
	expectOf(t, "[X | a]", deep, "error badarg")
	expectOf(t, "[1, X | 2]", long, "error badarg")
}

// A string has two words for each byte; sources are long enough for one too many.
func TestP1002LongString(t *testing.T) {
	s := strings.Repeat("a", api.MaxWords/2)
	expectExpr(t, `length("`+s+`")`, "32768")
	expectExpr(t, `"`+s+`a"`, "error system_limit")
	expectExpr(t, `try "`+s+`a" catch error:X -> {X} end`, "{system_limit}")
	expectExpr(t, `["`+s+`"]`, "error system_limit")
}

func TestP1002ExitTuple(t *testing.T) {
	for _, class := range []string{"exit", "error"} {
		expectOf(t, "catch "+class+"(X)", nested(api.KTuple, api.MaxDepth-1, whole(1)), "error system_limit")
		expectOf(t, "catch (catch "+class+"(X))", nested(api.KTuple, api.MaxDepth-1, whole(1)), "{'EXIT',system_limit}")
		expectOf(t, "tuple_size(catch "+class+"(X))", nested(api.KTuple, api.MaxDepth-2, whole(1)), "2")
		expectOf(t, "catch "+class+"(X)", tuple(times(api.MaxWords-3, whole(1))...), "error system_limit")
		expectOf(t, "size(catch "+class+"(X))", tuple(times(api.MaxWords-4, whole(1))...), "65536")
	}
	expectOf(t, "size(catch throw(X))", tuple(times(api.MaxWords-1, whole(1))...), "65536")
}
