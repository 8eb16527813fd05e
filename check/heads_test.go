package check_test

import (
	"testing"

	"exitwave/api"
)

func TestP701Heads(t *testing.T) {
	expectRight(t, "f() -> 1; f() -> 2; f() -> 3.")
	expectRight(t, "f(1, 2) -> 1; f(_, _) -> 2.")
	expectRight(t, "f() -> 1; 'f'() -> 2.")
	expect(t, api.ErrHead, "f(1) -> 1; f(2) -> 2; ^g(1) -> 3; h(1) -> 4.")
	expect(t, api.ErrHead, "f(1) -> 1; ^f() -> 2.")
	expect(t, api.ErrHead, "f() -> 1; ^f(1) -> 2.")
	expect(t, api.ErrHead, "f(1) -> 1; f(2) -> 2; ^f(1, 2) -> 3; g() -> 4.")
	expect(t, api.ErrHead, "f() -> 1; ^'F'() -> 2.")
	expect(t, api.ErrHead, "a() -> 1. f() -> 1; ^g() -> 2. h() -> 1; i() -> 2.")
}

func TestP701Twice(t *testing.T) {
	expectRight(t, "f() -> 1. f(_) -> 1. f(_, _) -> 1. g() -> 1. g(_) -> 1.")
	expectRight(t, "hd(X) -> X. self() -> 1. exit(_, _) -> 1.")
	expect(t, api.ErrTwice, "f() -> 1. ^f() -> 2. f() -> 3.")
	expect(t, api.ErrTwice, "f() -> 1. f(_) -> 1. g() -> 1. ^f(1) -> 2; f(2) -> 3. g() -> 2.")
	expect(t, api.ErrTwice, "f() -> 1. ^'f'() -> 2.")
}

// ErrHead and ErrTwice are ahead of all else, function by function, ErrHead first.
func TestP701HeadsFirst(t *testing.T) {
	expect(t, api.ErrHead, "f() -> X. g() -> 1; ^h() -> 2.")
	expect(t, api.ErrTwice, "f(f()) when g() -> X, z(). ^f(Y) -> 1.")
	expect(t, api.ErrHead, "f(X) when Y -> 1; ^f() -> 2.")
	expect(t, api.ErrTwice, "f() -> 1. ^f() -> 1. g() -> 1; h() -> 1.")
	expect(t, api.ErrHead, "f() -> 1. g() -> 1; ^h() -> 1. f() -> 1.")
	expect(t, api.ErrHead, "f() -> 1. f() -> 1; ^h() -> 1.")
	expect(t, api.ErrHead, "f() -> fun() -> 1; (X) -> 2 end. g() -> 1; ^h() -> 2.")
	expect(t, api.ErrUnbound, "f() -> ^X, fun() -> 1; (X) -> 2 end.")
}

func TestP701FunHeads(t *testing.T) {
	expectRight(t, "f() -> fun(1) -> 1; (2) -> 2 end, fun() -> 1; () -> 2 end, fun(_, _) -> 1 end.")
	expect(t, api.ErrHead, "f() -> fun(1) -> 1; (2) -> 2; ^() -> 3; (1, 2) -> 4 end.")
	expect(t, api.ErrHead, "f() -> fun() -> 1; ^(X) -> X end.")
	expect(t, api.ErrHead, "f() -> fun(f()) when f() -> X; ^() -> 3 end.")
	expect(t, api.ErrHead, "f() -> fun() -> fun() -> 1; (X) -> 2 end; ^(X) -> X end.")
	expect(t, api.ErrHead, "f() -> fun() -> fun() -> 1; ^(X) -> 2 end end.")
	expect(t, api.ErrHead, "f() -> [fun() -> X; ^(X) -> X end, X].")
}
