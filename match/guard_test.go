package match_test

import (
	"strings"
	"testing"

	"exitwave/api"
)

// No tests, several, one that is not true at each place.
func TestP803Tests(t *testing.T) {
	expectGuard(t, "", nil, true)
	expectGuard(t, "", env{"X": whole(1)}, true)
	expectGuard(t, "true", nil, true)
	expectGuard(t, "'true'", nil, true)
	for n := 1; n < 6; n++ {
		for at := range n {
			for _, odd := range []string{"false", "1", "hd([])", "X"} {
				l := strings.Split(strings.Repeat("true,", n-1)+"true", ",")
				expectGuard(t, strings.Join(l, ","), env{"X": atom("no")}, true)
				l[at] = odd
				expectGuard(t, strings.Join(l, ","), env{"X": atom("no")}, false)
			}
		}
	}
}

// A test that tells another term than true.
func TestP803Others(t *testing.T) {
	for _, v := range kinds() {
		is := alike(v, atom("true"))
		expectGuard(t, "X", env{"X": v}, is)
		expectGuard(t, "true, X", env{"X": v}, is)
		expectGuard(t, "X, true", env{"X": v}, is)
		expectValue(t, "X", env{"X": v}, v)
	}
	for _, test := range []string{"1", "0", "1.5", "a", `"true"`, `""`, "[]", "{}", "{true}", "[true]", "[true | []]", "1 + 1", "-1", "true andalso a", "hd([a])", "'True'"} {
		expectGuard(t, test, nil, false)
	}
}

// A literal, a tuple, a list in a guard is a term like another one.
func TestP803Terms(t *testing.T) {
	e := env{"X": whole(1), "Y": tuple(), "T": list(whole(2))}
	for _, c := range []struct {
		expr string
		want api.Term
	}{
		{"7", whole(7)}, {"-7", whole(-7)}, {"2.5", float(2.5)}, {"-0.0", float(minus)}, {"0.0", float(0)}, {"a", atom("a")}, {"''", atom("")}, {`"ab"`, text("ab")}, {`""`, list()},
		{"{}", tuple()}, {"{X}", tuple(whole(1))}, {"{X, Y, X}", tuple(whole(1), tuple(), whole(1))}, {"{{}, {X + X}}", tuple(tuple(), tuple(whole(2)))},
		{"[]", list()}, {"[X]", list(whole(1))}, {"[X, Y | []]", list(whole(1), tuple())}, {"[X | T]", list(whole(1), whole(2))}, {"[X, Y | T]", list(whole(1), tuple(), whole(2))}, {`[X | "a"]`, list(whole(1), whole(97))}, {"[X | [Y | T]]", list(whole(1), tuple(), whole(2))},
	} {
		expectValue(t, c.expr, e, c.want)
	}
	for _, expr := range []string{"[X | 1]", "[X | X]", "[X | Y]", "[X | a]", "[X | {T}]", "{hd([])}", "[1, hd([])]", "[hd([]) | T]", "[X | hd([])]", "{X, {Y, [-a]}}"} {
		expectRaise(t, expr, e)
	}
}

// andalso, orelse: the first part a boolean, the second one whatever it is; where it need not be looked at, it may raise.
func TestP803Either(t *testing.T) {
	for _, v := range kinds() {
		e := env{"X": v}
		switch {
		case alike(v, atom("true")):
			expectValue(t, "X andalso 5", e, whole(5))
			expectValue(t, "X orelse 5", e, atom("true"))
			expectValue(t, "X orelse hd([])", e, atom("true"))
			expectRaise(t, "X andalso hd([])", e)
		case alike(v, atom("false")):
			expectValue(t, "X orelse 5", e, whole(5))
			expectValue(t, "X andalso 5", e, atom("false"))
			expectValue(t, "X andalso hd([])", e, atom("false"))
			expectRaise(t, "X orelse hd([])", e)
		default:
			for _, second := range []string{"true", "false", "5", "hd([])"} {
				expectRaise(t, "X andalso "+second, e)
				expectRaise(t, "X orelse "+second, e)
			}
		}
		expectValue(t, "true andalso X", e, v)
		expectValue(t, "false orelse X", e, v)
		expectValue(t, "false andalso X", e, atom("false"))
		expectValue(t, "true orelse X", e, atom("true"))
	}
	expectRaise(t, "hd([]) andalso false", nil)
	expectRaise(t, "hd([]) orelse true", nil)
	expectValue(t, "false andalso true orelse true", nil, atom("true"))
	expectValue(t, "true orelse hd([]) andalso hd([])", nil, atom("true"))
	expectValue(t, "(true orelse hd([])) andalso false orelse a", nil, atom("a"))
	expectValue(t, "false andalso (1 andalso 2)", nil, atom("false"))
}

// A call is that of the builtin, also where the module has such a function.
func TestP803Builtins(t *testing.T) {
	more := "hd(X) -> true. is_atom(X) -> true. abs(X) -> {X}. max(X, Y) -> Y. is_function(X, Y) -> true. length(X) -> exit(X). element(X, Y) -> Y."
	for guard, want := range map[string]bool{
		"hd([1]) =:= 1": true, "hd([])": false, "hd([false])": false, "is_atom(1)": false, "is_atom(a)": true, "abs(-1) =:= 1": true,
		"max(2, 1) =:= 2": true, "is_function(1, 1)": false, "length([1, 2]) == 2": true, "length(1)": false, "element(1, {true, 2})": true, "element(1, true)": false,
	} {
		x, n := guardOf(t, guard, more)
		if got := askGuard(t, x, n, nil); got != want {
			t.Errorf("P803 %s: %v; want %v", guard, got, want)
		}
	}
}

// Terms at the limits of words and depth, and one more.
func TestP803Limits(t *testing.T) {
	deep := nested(api.KList, api.MaxDepth-1, whole(1))
	e := env{"X": deep, "Y": deep.L[0]}
	expectValue(t, "{Y}", e, tuple(deep.L[0]))
	expectValue(t, "[Y]", e, deep)
	expectValue(t, "[Y | []]", e, deep)
	expectValue(t, "[] ++ X", e, deep)
	expectValue(t, "hd(X)", e, deep.L[0])
	for _, expr := range []string{"{X}", "[X]", "[X | []]", "[{Y}]", "{1, X}", "[1 | [X]]"} {
		expectRaise(t, expr, e)
		expectRaise(t, "is_list("+expr+")", e)
	}
	long := list(times(api.MaxWords/2, whole(1))...)
	rest := list(long.L[1:]...)
	e = env{"L": long, "T": rest, "X": whole(1), "F": float(1)}
	expectValue(t, "L", e, long)
	expectValue(t, "tl(L)", e, rest)
	expectValue(t, "[X | T]", e, long)
	expectValue(t, "T ++ [X]", e, long)
	expectValue(t, "L ++ []", e, long)
	expectValue(t, "[] ++ L", e, long)
	expectValue(t, "length(L)", e, whole(api.MaxWords/2))
	for _, expr := range []string{"[X | L]", "L ++ [X]", "[X] ++ L", "L ++ L", "{L}", "[L]", "[F | T]", "T ++ [F]", "{X, T}", "[X, T]", "{{T}}", "{T, T}"} {
		expectRaise(t, expr, e)
	}
	expectValue(t, "{T}", e, tuple(rest))
	expectValue(t, "[T]", e, list(rest))
	wide := tuple(times(api.MaxWords-1, whole(1))...)
	expectValue(t, "element(65535, T)", env{"T": wide}, whole(1))
	expectValue(t, "tuple_size(T)", env{"T": wide}, whole(api.MaxWords-1))
	expectRaise(t, "[T]", env{"T": wide})
}

// Operators that stand one inside the other as deep as a source has them.
func TestP803Deep(t *testing.T) {
	expectGuard(t, strings.Repeat("1+", 7500)+"1 =:= X", env{"X": whole(7501)}, true)
	expectGuard(t, strings.Repeat("1+", 7500)+"a =:= X", env{"X": whole(7501)}, false)
	expectGuard(t, "X =:= "+strings.Repeat("- ", 7501)+"1", env{"X": whole(-1)}, true)
	expectGuard(t, strings.Repeat("not ", 7500)+"X", env{"X": atom("true")}, true)
	expectGuard(t, strings.Repeat("not ", 7501)+"X", env{"X": atom("true")}, false)
	expectGuard(t, strings.Repeat("true andalso ", 4500)+"X", env{"X": atom("true")}, true)
	expectGuard(t, strings.Repeat("{", 198)+"X"+strings.Repeat("}", 198)+" =:= Y", env{"X": whole(1), "Y": nested(api.KTuple, 198, whole(1))}, true)
	expectGuard(t, strings.Repeat("abs(", 198)+"X"+strings.Repeat(")", 198)+" =:= 1", env{"X": whole(-1)}, true)
}

// A variable of a guard that has no value is not true, whatever stands about it.
func TestP803NoValue(t *testing.T) {
	expectRaise(t, "X", nil)
	expectRaise(t, "X == X", env{"Y": whole(1)})
	expectGuard(t, "true orelse X", nil, true)
}
