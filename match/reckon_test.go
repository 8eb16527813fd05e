package match_test

import (
	"fmt"
	"math"
	"strings"
	"testing"

	"exitwave/api"
	"exitwave/num"
	"exitwave/term"
)

// expectTold asks for what an expression tells, if a layer below tells it; else that it raises.
func expectTold(t *testing.T, expr string, e env, want api.Term, errno api.Errno) {
	t.Helper()
	if errno == api.OK {
		expectValue(t, expr, e, want)
		return
	}
	expectRaise(t, expr, e)
}

func TestP803Arithmetic(t *testing.T) {
	for _, a := range kinds() {
		for _, b := range []api.Term{whole(0), whole(1), whole(-1), whole(7), whole(api.MinInt), float(0), float(minus), float(2.5), atom("a"), list(whole(1)), a} {
			e := env{"A": a, "B": b}
			for _, sign := range []string{"+", "-", "*", "/", "div", "rem"} {
				want, errno := num.Op(sign, a, b)
				expectTold(t, "A "+sign+" B", e, want, errno)
			}
		}
		want, errno := num.Neg(a)
		expectTold(t, "-A", env{"A": a}, want, errno)
	}
	expectValue(t, "7 - 2 - 1", nil, whole(4))
	expectValue(t, "1 / 2", nil, float(0.5))
	expectValue(t, "-7 rem 2", nil, whole(-1))
	expectValue(t, "-7 div 2", nil, whole(-3))
	expectValue(t, "- -3", nil, whole(3))
	expectRaise(t, "576460752303423487 + 1", nil)
	expectRaise(t, "-576460752303423487 - 2", nil)
	expectValue(t, "-576460752303423487 - 1", nil, whole(api.MinInt))
	expectRaise(t, "-(-576460752303423487 - 1)", nil)
	expectRaise(t, "1 / 0", nil)
	expectRaise(t, "1 div 0", nil)
	expectRaise(t, "1.0 rem 1", nil)
}

func TestP803Order(t *testing.T) {
	for _, a := range kinds() {
		for _, b := range kinds() {
			e := env{"A": a, "B": b}
			c, _ := term.Cmp(a, b)
			same, _ := term.Same(a, b)
			for sign, want := range map[string]bool{"==": c == 0, "/=": c != 0, "=<": c <= 0, "<": c < 0, ">=": c >= 0, ">": c > 0, "=:=": same, "=/=": !same} {
				expectGuard(t, "A "+sign+" B", e, want)
				expectGuard(t, "not (A "+sign+" B)", e, !want)
			}
		}
	}
	expectGuard(t, "1 == 1.0, 1 =/= 1.0, 0.0 == -0.0, 0.0 =/= -0.0, 1 < a, a < {}, {} < [], {9} < {1, 2}, [9] > [1, 2]", nil, true)
}

func TestP803Not(t *testing.T) {
	for _, v := range kinds() {
		switch {
		case alike(v, atom("true")):
			expectValue(t, "not X", env{"X": v}, atom("false"))
		case alike(v, atom("false")):
			expectValue(t, "not X", env{"X": v}, atom("true"))
		default:
			expectRaise(t, "not X", env{"X": v})
		}
	}
}

func TestP803Append(t *testing.T) {
	for _, a := range kinds() {
		for _, b := range kinds() {
			e := env{"A": a, "B": b}
			if a.Kind != api.KList || b.Kind != api.KList {
				expectRaise(t, "A ++ B", e)
				continue
			}
			expectValue(t, "A ++ B", e, list(append(append([]api.Term{}, a.L...), b.L...)...))
		}
	}
	expectValue(t, `"ab" ++ [1] ++ "c"`, nil, list(whole(97), whole(98), whole(1), whole(99)))
}

func TestP803Numbers(t *testing.T) {
	for _, v := range append(kinds(), float(0.5), float(-0.5), float(2.5), float(-2.5), float(0.49999999999999994), float(math.MaxFloat64), whole(1<<53+1)) {
		e := env{"X": v}
		want, errno := num.Abs(v)
		expectTold(t, "abs(X)", e, want, errno)
		want, errno = num.Real(v)
		expectTold(t, "float(X)", e, want, errno)
		for _, how := range []string{"trunc", "round", "floor", "ceil"} {
			want, errno = num.Whole(how, v)
			expectTold(t, how+"(X)", e, want, errno)
		}
	}
	expectValue(t, "abs(-5)", nil, whole(5))
	expectValue(t, "abs(-0.0)", nil, float(0))
	expectValue(t, "float(3)", nil, float(3))
	expectValue(t, "trunc(-2.5)", nil, whole(-2))
	expectValue(t, "round(-2.5)", nil, whole(-3))
	expectValue(t, "floor(-2.5)", nil, whole(-3))
	expectValue(t, "ceil(-2.5)", nil, whole(-2))
}

func TestP803Lists(t *testing.T) {
	for _, v := range kinds() {
		e := env{"X": v}
		if v.Kind != api.KList || len(v.L) == 0 {
			expectRaise(t, "hd(X)", e)
			expectRaise(t, "tl(X)", e)
		} else {
			expectValue(t, "hd(X)", e, v.L[0])
			expectValue(t, "tl(X)", e, list(v.L[1:]...))
		}
		if v.Kind == api.KList {
			expectValue(t, "length(X)", e, whole(int64(len(v.L))))
		} else {
			expectRaise(t, "length(X)", e)
		}
		if v.Kind == api.KTuple {
			expectValue(t, "tuple_size(X)", e, whole(int64(len(v.L))))
		} else {
			expectRaise(t, "tuple_size(X)", e)
		}
	}
	expectValue(t, `hd(tl("ab"))`, nil, whole(98))
	expectValue(t, `tl("a")`, nil, list())
}

func TestP803Element(t *testing.T) {
	for _, n := range append(kinds(), whole(2), whole(3), whole(4)) {
		for _, v := range kinds() {
			e := env{"X": n, "Y": v}
			if n.Kind == api.KInt && v.Kind == api.KTuple && n.N >= 1 && n.N <= int64(len(v.L)) {
				expectValue(t, "element(X, Y)", e, v.L[n.N-1])
			} else {
				expectRaise(t, "element(X, Y)", e)
			}
		}
	}
	expectValue(t, "element(1, {a})", nil, atom("a"))
	expectValue(t, "element(2, {a, b})", nil, atom("b"))
	expectRaise(t, "element(0, {a})", nil)
	expectRaise(t, "element(2, {a})", nil)
	expectRaise(t, "element(1.0, {a})", nil)
	expectRaise(t, "element({a}, 1)", nil)
}

func TestP803Kinds(t *testing.T) {
	for _, v := range kinds() {
		e := env{"X": v}
		for name, kind := range map[string]string{
			"is_atom": "3", "is_integer": "1", "is_float": "2", "is_number": "12", "is_list": "8", "is_tuple": "7", "is_pid": "6", "is_reference": "4", "is_function": "5",
		} {
			expectValue(t, name+"(X)", e, truth(strings.Contains(kind, fmt.Sprint(v.Kind))))
		}
		expectValue(t, "is_boolean(X)", e, truth(alike(v, atom("true")) || alike(v, atom("false"))))
	}
	expectRaise(t, "is_atom(hd([]))", nil)
}

func TestP803MinMax(t *testing.T) {
	for _, a := range kinds() {
		for _, b := range kinds() {
			e := env{"A": a, "B": b}
			low, high := a, a
			switch c, _ := term.Cmp(a, b); c {
			case 1:
				low = b
			case -1:
				high = b
			}
			expectValue(t, "min(A, B)", e, low)
			expectValue(t, "max(A, B)", e, high)
		}
	}
	expectValue(t, "max(1, 1.0)", nil, whole(1))
	expectValue(t, "min(1.0, 1)", nil, float(1))
}

// is_function with two: the fun must be one of the tree, with as many terms taken along as it has free variables.
func TestP803IsFunction(t *testing.T) {
	x, n := guardOf(t, "is_function(X, Y)", "g(A, B) -> {fun() -> 1 end, fun(C) -> A + B + C end, fun(A, D) -> A + D end, fun g/2, fun g/2}, fun(E) -> fun(G, H, I) -> {A, E} end end.")
	// by their places: fun(), fun(C), fun(A, D), two names, fun(G, H, I), fun(E)
	want := []struct{ arity, free int }{{0, 0}, {1, 2}, {2, 1}, {2, 0}, {2, 0}, {3, 2}, {1, 1}}
	i := 0
	for place := -1; place <= len(x.Nodes)+1; place++ {
		takes, along := -1, 0
		if place >= 0 && place < len(x.Nodes) && (x.Nodes[place].Kind == api.NFun || x.Nodes[place].Kind == api.NFunName) {
			takes, along = want[i].arity, want[i].free
			i++
		}
		for l := range 4 {
			for number := range 5 {
				f := fun(int64(place), times(l, whole(1))...)
				is := takes == number && along == l
				if got := askGuard(t, x, n, env{"X": f, "Y": whole(int64(number))}); got != is {
					t.Errorf("P803 is_function(#Fun%d of %d, %d): %v; want %v", place, l, number, got, is)
				}
			}
		}
	}
	if i != len(want) {
		t.Fatalf("%d funs", i)
	}
	for _, v := range kinds() {
		for _, w := range kinds() {
			e := env{"X": w, "Y": v}
			if v.Kind == api.KInt && v.N >= 0 { // no term here is a fun of the tree
				expectValue(t, "is_function(X, Y)", e, atom("false"))
			} else {
				expectRaise(t, "is_function(X, Y)", e)
			}
		}
	}
}
