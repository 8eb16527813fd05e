package check_test

import (
	"math"
	"strings"
	"testing"

	"exitwave/api"
	"exitwave/check"
)

// P703: in the order in which they first occur, by the places of nodes, each once.
func TestP703Order(t *testing.T) {
	expectFree(t, "f() -> fun() -> 1 end.", "")
	expectFree(t, "f(X, Y, Z) -> fun() -> Z, Y, X, Z, Y end.", "Z Y X")
	expectFree(t, "f(X, Y, Z) -> fun() -> {Y, [X | Y], X} end.", "Y X")
	expectFree(t, "f(B, A) -> fun() -> A = B end.", "A B")
	expectFree(t, "f(B, A, C) -> fun(C) when B -> A end.", "C B A")
	expectFree(t, "f(A, B, C) -> fun(1) -> C; (2) -> B; (_) when A -> B end.", "C B A")
	expectFree(t, "f(Aa, A, AA, _a) -> fun() -> {_a, AA, A, Aa} end.", "_a AA A Aa")
	expectFree(t, "f(A, B, C, D) -> fun() -> try D of C -> B catch _ -> A end end.", "D C B A")
	expectFree(t, "f(A, B, C, D) -> fun() -> receive D when C -> B after 0 -> A end end.", "D C B A")
	expectFree(t, "f(A, B, C, D) -> fun() -> D(C, f(B)) + hd(A) end. f(_) -> 1.", "D C B A")
}

// P703: those that are bound where the fun stands, whatever is bound within, or behind it.
func TestP703Bound(t *testing.T) {
	expectFree(t, "f(X) -> fun() -> Y = X, Y end, Y = 1.", "X")
	expectFree(t, "f(X) -> Y = X, fun() -> Y end, Z = 1, fun() -> {Z, Y, X} end.", "Y", "Z Y X")
	expectFree(t, "f(X) -> fun(Y) -> {X, Y} end.", "X")
	expectFree(t, "f(X, Y) -> fun(Y) -> X end.", "Y X")
	expectFree(t, "f(X) -> fun(X) -> 1 end.", "X")
	expectFree(t, "f(_) -> fun(_, _) -> 1 end.", "")
	expectFree(t, "f(X) -> 1; f(Y) -> fun(X) -> X end; f(X) -> fun(Y) -> {X, Y} end.", "", "X")
	expectFree(t, "f(X) -> X. g(Y) -> fun(X) -> {X, Y} end. h(Z) -> fun(X, Y) -> Z end.", "Y", "Z")
	expectFree(t, "f(X) -> {Y = 1, fun() -> {X, Y} end, Y = 2}.", "X Y")
	expectFree(t, "f(X) -> {fun(Y) -> {X, Y} end, Y = 1}.", "X")
	expectFree(t, "f(X) -> Y = fun(Y) -> {X, Y} end.", "X")
	expectFree(t, "f(X) -> case X of {Y} -> fun() -> Y end; [Y | Z] -> fun(X) -> Z, Y end end, fun() -> Y end.", "Y", "X Z Y", "Y")
	expectFree(t, "f() -> receive X -> fun() -> X end after 0 -> fun(X) -> X end end.", "X", "")
	expectFree(t, "f() -> try X = 1, fun() -> X end of Y -> fun() -> {X, Y} end catch Y -> fun(X) -> {X, Y} end after fun(Y, X) -> 1 end end.", "X", "X Y", "Y", "")
	expectFree(t, "f(A) -> A andalso begin X = 1, fun() -> {X, A} end end, fun(X) -> X end, catch fun(A) -> 1 end.", "X A", "", "A")
	expectFree(t, "f(A) -> X = 1, f(fun() -> X end)(fun(B) -> fun() -> A end end).", "X", "A", "A")
}

// P703: none that is unsafe where the fun stands.
func TestP703Unsafe(t *testing.T) {
	expectFree(t, "f(Y) -> catch X = 1, fun(X) -> {X, Y} end.", "Y")
	expectFree(t, "f(Y) -> case Y of 1 -> X = 1; _ -> 2 end, fun(X) -> X end.", "")
	expectFree(t, "f(Y) -> try X = Y catch _ -> fun(X) -> {X, Y} end after fun(X, Y) -> 1 end end, fun(X) -> {X, Y} end.", "Y", "Y", "Y")
	expectFree(t, "f(A) -> A andalso (X = 1), fun(X) -> fun() -> {X, A} end end.", "X A", "A")
	expectFree(t, "f(A) -> receive X -> 1; _ -> 2 end, fun(X) -> X = A end.", "A")
	expectFree(t, "f(A) -> receive X -> 1 after infinity -> fun(X) -> {X, A} end end.", "A")
	expectFree(t, "f(A) -> receive after infinity -> X = A, fun() -> X end end, fun(X) -> X end.", "X", "")
}

// P703: funs within funs: the outer ones' variables are bound in the inner ones.
func TestP703Nested(t *testing.T) {
	expectFree(t, "f(X) -> fun(Y) -> fun(Z) -> fun() -> {X, Y, Z} end end end.", "X Y Z", "X Y", "X")
	expectFree(t, "f(X) -> fun(X) -> fun(X) -> X end end.", "X", "X")
	expectFree(t, "f() -> fun(X) -> fun(X) -> X end end.", "X", "")
	expectFree(t, "f() -> fun() -> X = 1, fun() -> X end end.", "X", "")
	expectFree(t, "f(X) -> fun() -> fun() -> X end end.", "X", "X")
	expectFree(t, "f(Y) -> fun(X) -> 1; (Y) -> fun(X) -> {X, Y} end; (_) -> fun(X) -> Y end end.", "Y", "Y", "Y")
	expectFree(t, "f() -> fun() -> fun(X) -> X end, fun(Y) -> X = 1, Y end, X = 1, fun() -> X end end.", "", "", "X", "")
}

// Places that are none of a NFun: nothing is told (P8, P9).
func TestP703Places(t *testing.T) {
	x := treeOf(t, front+"f(X) -> fun() -> X end, fun f/1.")
	for n := range x.Nodes {
		if l := check.Free(x, n); x.Nodes[n].Kind != api.NFun && len(l) != 0 {
			t.Errorf("P9 Free at %d: %v", n, l)
		}
	}
	for _, n := range []int{-1, len(x.Nodes), math.MinInt, math.MaxInt, 1 << 32} {
		if l := check.Free(x, n); len(l) != 0 {
			t.Errorf("P9 Free at %d: %v", n, l)
		}
	}
	if l := check.Free(api.Tree{}, 0); len(l) != 0 {
		t.Errorf("P9 Free of no tree: %v", l)
	}
}

// Many variables, and as many funs that take them along.
func TestP703Many(t *testing.T) {
	var names []string
	for a := 'A'; a <= 'Z'; a++ {
		for b := 'A'; b <= 'Z'; b++ {
			names = append(names, string(a)+string(b))
		}
	}
	all := strings.Join(names, ",")
	x := treeOf(t, front+"f({"+all+"}) -> fun() -> ["+all+","+all+"] end, fun(["+all+"]) -> 1 end.")
	for _, n := range places(x, api.NFun) {
		if got := strings.Join(check.Free(x, n), ","); got != all {
			t.Errorf("P703: %s; want %s", said(got), said(all))
		}
	}
}
