package check_test

import (
	"testing"

	"exitwave/api"
)

func TestExample1(t *testing.T) {
	expect(t, api.ErrUnbound, "f() -> ^X.")
	expect(t, api.ErrUnsafe, "f() -> case 1 of 1 -> X = 1; _ -> 2 end, ^X.")
	expectRight(t, "f(X) -> case X of 1 -> Y = 1; _ -> Y = 2 end, Y.")
}

func TestExample2(t *testing.T) {
	expect(t, api.ErrPattern, "f(^f()) -> 1.")
	expect(t, api.ErrGuard, "f(X) when ^g(X) -> 1.")
	expect(t, api.ErrCall, "f() -> ^g().")
	expect(t, api.ErrHead, "f() -> 1; ^g() -> 2.")
	expect(t, api.ErrTwice, "f() -> 1. ^f() -> 2.")
}

func TestExample3(t *testing.T) {
	expectFree(t, "f(X) -> fun(X) -> X end.", "X")
	expectFree(t, "f(X, Y) -> fun(Z) -> Y + X + Z end.", "Y X")
}
