package check_test

import (
	"strings"
	"testing"

	"exitwave/api"
)

// sample is an expression in which A is bound and f/0, f/1 and f/2 are functions; what it may stand in besides expressions.
type sample struct {
	text           string
	pattern, guard bool
}

// samples: one of each kind of node at least.
var samples = []sample{
	{"1", true, true}, {"1.5", true, true}, {"a", true, true}, {"'_'", true, true}, {"\"s\"", true, true}, {"\"\"", true, true}, {"A", true, true},
	{"{}", true, true}, {"{A}", true, true}, {"[]", true, true}, {"[A]", true, true}, {"[A | A]", true, true}, {"[1, a, A | A]", true, true},
	{"- 1", true, true}, {"- 1.5", true, true}, {"- 0", true, true}, {"-#8000000000000000", true, true},
	{"- A", false, true}, {"- a", false, true}, {"- - 1", false, true}, {"- \"s\"", false, true}, {"- [1]", false, true}, {"not 1", false, true}, {"not A", false, true},
	{"1 - 2", false, true}, {"1 + 2", false, true}, {"A * 2", false, true}, {"A / 2", false, true}, {"A div 2", false, true}, {"A rem 2", false, true},
	{"A == 1", false, true}, {"A /= 1", false, true}, {"A =< 1", false, true}, {"A < 1", false, true}, {"A >= 1", false, true}, {"A > 1", false, true}, {"A =:= 1", false, true}, {"A =/= 1", false, true},
	{"[] ++ []", false, true}, {"A andalso A", false, true}, {"A orelse A", false, true}, {"A ! 1", false, false},
	{"A = A", true, false}, {"1 = 2", true, false}, {"{A} = [A]", true, false},
	{"hd(A)", false, true}, {"min(1, A)", false, true}, {"is_function(A, 1)", false, true}, {"sort(A)", false, false}, {"self()", false, false}, {"make_ref()", false, false}, {"exit(A)", false, false}, {"throw(1)", false, false},
	{"f()", false, false}, {"f(A)", false, false}, {"f(A, 1)", false, false}, {"setelement(1, {a}, b)", false, false}, {"exit(A, 1)", false, false},
	{"A(1)", false, false}, {"A()", false, false}, {"(a)()", false, false}, {"(hd)(A)", false, false}, {"fun() -> 1 end", false, false}, {"fun f/1", false, false},
	{"case 1 of _ -> 1 end", false, false}, {"try 1 catch _ -> 1 end", false, false}, {"try 1 after 2 end", false, false}, {"catch 1", false, false},
	{"receive after 0 -> 1 end", false, false}, {"receive _ -> 1 end", false, false}, {"begin 1 end", false, false},
}

// functions stand behind the one that a sample is laid in.
const functions = " f() -> 1. f(_) -> 1. f(_, _) -> 1."

// laidIn lays a sample into a frame at its `@`: the mark is ahead of the sample itself, also if that has brackets.
func laidIn(frame, text string) string {
	if strings.HasPrefix(text, "(") { // what is called is in brackets, which are part of the call
		return strings.Replace(frame, "@", "^"+text, 1) + functions
	}
	return strings.Replace(frame, "@", "(^"+text+")", 1) + functions
}

func unmarked(s string) string { return strings.Replace(s, "^", "", 1) }

// nested: where a pattern, a test, an expression stands within another one.
func nested(frame string, wraps ...string) []string {
	l := []string{frame}
	for _, w := range wraps {
		l = append(l, strings.Replace(frame, "@", w, 1))
	}
	for i, w := range wraps {
		v := wraps[(i+1)%len(wraps)]
		l = append(l, strings.Replace(frame, "@", strings.Replace(v, "@", w, 1), 1))
	}
	return l
}

// patternFrames: the places of patterns; A is bound ahead of them.
var patternFrames = []string{
	"g(A, @) -> 1.", "g(A) -> 1; g(A = @) -> 2.", "g(A) -> @ = 1.", "g(A) -> case 1 of @ -> 1 end.", "g(A) -> case 1 of 1 -> 1; @ -> 1 end.",
	"g(A) -> receive @ -> 1 end.", "g(A) -> receive 2 -> 1; @ -> 1 after 0 -> 1 end.", "g(A) -> try 1 of @ -> 1 after 1 end.", "g(A) -> try 1 catch @ -> 1 end.",
	"g(A) -> try 1 catch error:1 -> 1; _:@ -> 1 end.", "g(A) -> fun(@) -> 1 end.", "g(A) -> fun(1, 2) -> 1; (_, @) -> 1 end.",
}

func TestP701Patterns(t *testing.T) {
	for _, frame := range patternFrames {
		for _, place := range nested(frame, "{@}", "{1, @, 2}", "[@]", "[@ | 1]", "[1 | @]", "1 = @", "@ = 1") {
			for _, x := range samples {
				source := laidIn(place, x.text)
				if x.pattern {
					expectRight(t, unmarked(source))
				} else {
					expect(t, api.ErrPattern, source)
				}
			}
		}
	}
}

// A pattern is gone through from the left, and what it is made of is no part of another node.
func TestP701PatternOrder(t *testing.T) {
	expect(t, api.ErrPattern, "f({1, [(^1 + 2)], f()}) -> X.")
	expect(t, api.ErrPattern, "f(1, ^f(f()), begin 1 end) -> 1.")
	expect(t, api.ErrPattern, "f([a | ^catch 1] = f()) -> 1.")
	expect(t, api.ErrPattern, "f(^-X) -> 1.")
	expect(t, api.ErrPattern, "f(^- -1) -> 1.")
	expect(t, api.ErrPattern, "f(^1 - 1) -> 1.")
	expect(t, api.ErrPattern, "f(^not 1) -> 1.")
	expect(t, api.ErrPattern, "f() -> ^f() = 1.")
	expect(t, api.ErrPattern, "f() -> {1, ^f()} = f().")
	expect(t, api.ErrPattern, "f(X, ^f()) when Y -> Z.")
}

// guardFrames: the places of guards.
var guardFrames = []string{
	"g(A) when @ -> 1.", "g(A) when 1, @, 2 -> 1.", "g(A) -> 1; g(A) when @ -> 2.", "g(A) -> case 1 of 1 when @ -> 1 end.", "g(A) -> receive 1 when @ -> 1 end.", "g(A) -> receive 1 when @ -> 1 after infinity -> 1 end.",
	"g(A) -> try 1 of 1 when @ -> 1 after 2 end.", "g(A) -> try 1 catch 1 when @ -> 1 end.", "g(A) -> try 1 catch exit:1 when @ -> 1 end.", "g(A) -> fun() when @ -> 1 end.", "g(A) -> fun(B) -> 1; (C) when @ -> 1 end.",
}

func TestP701Guards(t *testing.T) {
	for _, frame := range guardFrames {
		for _, place := range nested(frame, "{@}", "{1, @, 2}", "[@]", "[@ | 1]", "[1 | @]", "1 + @", "@ == 1", "not @", "- @", "@ andalso 1", "1 orelse @", "hd(@)", "element(1, @)", "is_atom(@)") {
			for _, x := range samples {
				source := laidIn(place, x.text)
				if x.guard {
					expectRight(t, unmarked(source))
				} else {
					expect(t, api.ErrGuard, source)
				}
			}
		}
	}
}

// A guard's fault is at a node ahead of what that has, and behind what stands on its left.
func TestP701GuardOrder(t *testing.T) {
	expect(t, api.ErrGuard, "f() when ^g(X) -> Y.")
	expect(t, api.ErrGuard, "f() when ^X ! Y -> 1.")
	expect(t, api.ErrGuard, "f() when ^X = 1 -> X.")
	expect(t, api.ErrGuard, "f() when ^begin X end -> 1.")
	expect(t, api.ErrGuard, "f() when ^sort(f()) -> 1.")
	expect(t, api.ErrGuard, "f(A) when A, {hd(A), ^f(X)}, f() -> 1.")
	expect(t, api.ErrUnbound, "f() when hd(^X), g() -> 1.")
	expect(t, api.ErrUnbound, "f() when {^X, g()} -> 1.")
	expect(t, api.ErrUnbound, "f() when ^_ -> 1.")
	expect(t, api.ErrUnbound, "f(_) when 1 + ^_ -> 1.")
	expect(t, api.ErrUnsafe, "f() -> catch X = 1, case 1 of 1 when ^X -> 1 end.")
	expect(t, api.ErrGuard, "f(X) when ^hd(X, X) -> 1.")
	expect(t, api.ErrGuard, "f(X) when ^hd() -> 1.")
	expect(t, api.ErrGuard, "f(X) when ^nope(X) -> 1.")
}

// A builtin of a guard stands there also where the module has such a function; a function of the module does not.
func TestP701GuardNames(t *testing.T) {
	expectRight(t, "f(X) when hd(X) -> hd(X). hd(_) -> 1.")
	expect(t, api.ErrGuard, "f(X) when ^hd(X, X) -> hd(X, X). hd(_, _) -> 1.")
	expect(t, api.ErrGuard, "f(X) when ^sort(X) -> 1. sort(_) -> 1.")
}

// exprFrames: the places of expressions.
var exprFrames = []string{
	"g(A) -> @.", "g(A) -> 1, @, 2.", "g(A) -> 1; g(A) -> @.", "g(A) -> case @ of _ -> 1 end.", "g(A) -> case 1 of 1 -> @; 2 -> 2 end.", "g(A) -> receive 1 -> @ end.",
	"g(A) -> receive 1 -> 1 after 0 -> @ end.", "g(A) -> receive after infinity -> @ end.", "g(A) -> try @ after 1 end.", "g(A) -> try 1 of 1 -> @ after 1 end.", "g(A) -> try 1 catch 1 -> @ end.",
	"g(A) -> try 1 catch 1 -> 2 after @ end.", "g(A) -> fun() -> @ end.", "g(A) -> fun() -> 1; () -> @ end.", "g(A) -> 1 = @.", "g(A) -> catch @.", "g(A) -> begin @ end.",
}

// wrapsOfExprs: an expression within another one.
var wrapsOfExprs = []string{"{1, @}", "[@, 1]", "[@ | 1]", "[1 | @]", "1 + @", "@ ! 1", "1 ! @", "not @", "@ andalso 1", "1 andalso @", "@ orelse 1", "1 orelse @", "f(@)", "f(1, @)", "hd(@)", "A(@)", "(@)(1)", "1 = @", "catch @", "begin 1, @ end", "case @ of _ -> 1 end", "fun(_) -> @ end"}

func TestP701Exprs(t *testing.T) {
	for i, frame := range exprFrames {
		places := nested(frame, wrapsOfExprs...)
		if i > 0 {
			places = places[:1+len(wrapsOfExprs)]
		}
		for _, place := range places {
			for _, x := range samples {
				expectRight(t, unmarked(laidIn(place, x.text)))
			}
			for _, x := range []sample{{text: "X"}, {text: "_"}} {
				expect(t, api.ErrUnbound, laidIn(place, x.text))
			}
			for _, x := range []sample{{text: "z()"}, {text: "f(1, 2, 3)"}, {text: "fun f/3"}, {text: "fun hd/1"}, {text: "hd()"}, {text: "hd(1, 2)"}, {text: "z(A)"}, {text: "self(1)"}} {
				expect(t, api.ErrCall, laidIn(place, x.text))
			}
		}
	}
}

// Calls: a function of the module, wherever it stands, or a builtin; arguments first.
func TestP701Calls(t *testing.T) {
	expectRight(t, "f() -> g(1). g(_) -> f(), fun g/1, fun f/0.")
	expectRight(t, "f() -> f(). hd() -> hd(). sort(_, _) -> sort(1, 2), sort([]), fun sort/2.")
	expect(t, api.ErrCall, "f() -> ^g(1). g() -> 1. g(_, _) -> 1.")
	expect(t, api.ErrCall, "f() -> ^fun g/1. g() -> 1. g(_, _) -> 1.")
	expect(t, api.ErrCall, "f() -> ^fun sort/1.")
	expect(t, api.ErrCall, "f() -> ^fun self/0.")
	expect(t, api.ErrUnbound, "f() -> g(h(^X)).")
	expect(t, api.ErrCall, "f() -> g(1, ^h(1), X).")
	expect(t, api.ErrCall, "f() -> ^g(X = 1), Y.")
	expect(t, api.ErrCall, "f() -> {1, ^'F'()}.")
	expect(t, api.ErrUnbound, "f() -> ^X(g()).")
	expect(t, api.ErrCall, "f() -> (^g())(X).")
	expectRight(t, "f(X) -> X(1), (a)(2), (fun f/1)(3), f(1)(2)(3).")
}
