package check_test

import (
	"testing"

	"exitwave/api"
)

// A variable in a pattern: `_` is nothing, one that is neither is bound then, one that is bound stays.
func TestP701Bind(t *testing.T) {
	expectRight(t, "f(X, {X, _}, [X | _], _) -> X.")
	expectRight(t, "f() -> X = 1, X = 2, {X, X} = {1, 1}, X.")
	expectRight(t, "f(X) -> case 1 of X -> X end, receive X -> X end, try 1 of X -> X catch X -> X end.")
	expectRight(t, "f(_x, __) -> _x + __.")
	expect(t, api.ErrUnbound, "f(_) -> ^_.")
	expect(t, api.ErrUnbound, "f() -> _ = 1, ^_.")
	expect(t, api.ErrUnbound, "f(_x) -> ^_.")
	expect(t, api.ErrUnbound, "f(Xa) -> ^X.")
	expect(t, api.ErrUnbound, "f(X) -> ^Xa.")
	expectRight(t, "f(X) when X -> X; f(Y) when Y -> Y.")
	expect(t, api.ErrUnbound, "f(X) -> 1; f(Y) -> ^X.")
	expect(t, api.ErrUnbound, "f(X) -> 1. g(_) -> ^X.")
	expectRight(t, "f() -> catch X = 1. g() -> X = 1, X; g() -> X = 2.")
	expectRight(t, "f() -> catch X = 1; f() -> X = 2, X.")
	expectRight(t, "f(Y = X) -> Y + X.")
	expectRight(t, "f(X = Y, {Y} = X) when X > Y -> 1.")
}

// NMatch: the expression first, then the pattern.
func TestP701Match(t *testing.T) {
	expect(t, api.ErrUnbound, "f() -> X = ^X.")
	expect(t, api.ErrUnbound, "f() -> {X, Y} = {1, ^X}.")
	expect(t, api.ErrUnbound, "f() -> f() = ^X.")
	expectRight(t, "f() -> X = (X = 1).")
	expectRight(t, "f() -> X = Y = 1, {X, Y}.")
	expectRight(t, "f() -> X = {Y = 1, Y}, {X, Y}.")
	expect(t, api.ErrUnsafe, "f() -> ^X = catch X = 1.")
	expect(t, api.ErrUnsafe, "f() -> {Y, ^X} = (catch X = 1), Z.")
	expect(t, api.ErrCall, "f() -> f() = ^g().")
}

// Parts bind from the left.
func TestP701Parts(t *testing.T) {
	for _, x := range []string{"{X = 1, @}", "[X = 1, @]", "[X = 1 | @]", "[1, X = 1 | @]", "(X = 1) + @", "(X = 1) ! @", "(X = 1) == @", "(X = 1) andalso @", "(X = 1) orelse @", "(X = 1) ++ @", "g(X = 1, @)", "(X = 1)(@)", "A(X = 1, @)", "begin X = 1, @ end", "{[X = 1], {@}}", "min(X = 1, @)", "case X = 1 of _ -> @ end", "case X = 1 of 1 when @ -> 2 end", "try X = 1, @ after 1 end"} {
		frame := "f(A) -> " + x + ". g(_, _) -> 1."
		expectRight(t, unmarked(replaced(frame, "X")))
		expect(t, api.ErrUnbound, replaced(frame, "^Y"))
	}
	for _, x := range []string{"{@, X = 1}", "[@, X = 1]", "[@ | X = 1]", "@ + (X = 1)", "@ ! X = 1", "@ andalso (X = 1)", "@ orelse (X = 1)", "g(@, X = 1)", "(@)(X = 1)", "A(@, X = 1)", "begin @, X = 1 end", "case @ of 1 -> X = 1 end", "case @ of X -> 1 end", "try @ of X -> 1 after 1 end"} {
		expect(t, api.ErrUnbound, replaced("f(A) -> "+x+". g(_, _) -> 1.", "^X"))
	}
	for _, x := range []string{"{1, X = 1}", "[X = 1]", "[1 | X = 1]", "[X = 1 | 1]", "1 + (X = 1)", "- (X = 1)", "not (X = 1)", "1 ! X = 1", "(X = 1) ! 1", "f(X = 1)", "hd(X = 1)", "A(1, X = 1)", "(X = 1)()", "begin X = 1 end", "begin X = 1, 2 end", "1 == (X = 1)", "X = 1", "{X, 1} = {1, 1}", "1 = X = 1", "case X = 1 of _ -> 1 end", "(X = 1) andalso 1", "(X = 1) orelse 1"} {
		expectBehind(t, 'v', x)
	}
}

func replaced(frame, with string) string {
	for i := range frame {
		if frame[i] == '@' {
			return frame[:i] + with + frame[i+1:]
		}
	}
	return frame
}

// What the second one of andalso, orelse binds, and what a catch binds, is unsafe behind; what was bound ahead stays.
func TestP701Perhaps(t *testing.T) {
	for _, x := range []string{"1 andalso (X = 1)", "1 orelse (X = 1)", "1 andalso {2, [X = 1]}", "catch X = 1", "catch {1, X = 1}", "{1, catch X = 1}", "1 andalso 1 andalso (X = 1)", "1 andalso (1 orelse (X = 1))", "catch catch X = 1",
		"catch (1 andalso (X = 1))", "catch case 1 of 1 -> X = 1; _ -> 2 end", "1 orelse case 1 of 1 -> X = 1 end"} {
		expectBehind(t, 'u', x)
	}
	expectRight(t, "f(X) -> 1 andalso (X = 1), X, catch X = 1, X, 1 orelse X, X.")
	expectRight(t, "f() -> 1 andalso begin X = 1, X end.")
	expectRight(t, "f() -> catch X = 1 + begin X = 1, X end.")
	expectRight(t, "f() -> catch begin X = 1, X = X end.")
	expect(t, api.ErrUnsafe, "f() -> 1 andalso (X = 1) andalso X, ^X = 1.")
	expectRight(t, "f() -> (1 andalso 2) andalso begin X = 1, X end.")
	expect(t, api.ErrUnsafe, "f() -> (1 andalso (X = 1)) andalso ^X.")
	expect(t, api.ErrUnsafe, "f() -> (1 orelse (X = 1)) + ^X.")
	expect(t, api.ErrUnsafe, "f() -> {catch X = 1, 1 andalso ^X}.")
	expect(t, api.ErrUnsafe, "f() -> {catch X = 1, catch ^X = 2}.")
	expectBehind(t, 'v', "(X = 1) andalso (X = 2)")
	expectBehind(t, 'n', "1 andalso 2, catch Y = 1")
}

func TestP701Case(t *testing.T) {
	for _, x := range []string{
		"case 1 of 1 -> X = 1 end", "case 1 of X -> 1 end", "case 1 of X -> 1; 2 -> X = 2 end", "case 1 of 1 -> X = 1; 2 -> X = 2; X -> 3 end", "case X = 1 of 1 -> 1; 2 -> 2 end", "case 1 of {X} -> X; [X | _] when X -> 1 end",
		"case 1 of 1 -> case 2 of 1 -> X = 1; X -> 2 end; _ -> X = 2 end", "case 1 of 1 -> X = 1; 2 -> X = 2 end, case 1 of 1 -> X = 1; 2 -> 2 end", "case X = 1 of 1 -> X = 1; 2 -> 1 end",
		"case 1 of 1 -> Y = 1, X = Y; Y -> X = Y end, Y",
	} {
		expectBehind(t, 'v', x)
	}
	for _, x := range []string{
		"case 1 of 1 -> X = 1; 2 -> 2 end", "case 1 of 1 -> 1; 2 -> X = 2 end", "case 1 of X -> 1; 2 -> 2 end", "case 1 of 1 -> 1; X -> 2 end", "case 1 of 1 -> X = 1; 2 -> X = 2; _ -> 3 end", "case 1 of 1 -> 1; 2 -> X = 2; _ -> X = 3 end",
		"case 1 of 1 -> X = 1; 2 -> catch X = 2 end", "case 1 of 1 -> catch X = 1; 2 -> X = 2 end", "case 1 of 1 -> catch X = 1 end", "case 1 of 1 -> catch X = 1; 2 -> catch X = 1 end", "case 1 of 1 -> catch X = 1; 2 -> 2 end", "case 1 of 1 -> 1; 2 -> catch X = 1 end",
		"case 1 of 1 -> case 2 of 1 -> X = 1; _ -> 2 end; _ -> X = 2 end", "case 1 of 1 -> X = 1; 2 -> case 2 of 1 -> X = 1; _ -> 2 end end", "case catch X = 1 of 1 -> 1; 2 -> 2 end", "case catch X = 1 of 1 -> 1 end",
		"case 1 of 1 -> X = 1; 2 -> fun(X) -> X end end", "case 1 of 1 -> try X = 1 after 1 end; 2 -> X = 2 end",
	} {
		expectBehind(t, 'u', x)
	}
	for _, x := range []string{"case 1 of 1 -> 1; 2 -> 2 end", "case 1 of _ -> 1 end", "case 1 of 1 -> fun(X) -> X end end", "case 1 of 1 -> Y = 1; 2 -> Y = 2 end"} {
		expectBehind(t, 'n', x)
	}
	expect(t, api.ErrUnbound, "f() -> case 1 of 1 -> X = 1; 2 -> ^X end.")
	expect(t, api.ErrUnbound, "f() -> case 1 of X -> X; 2 -> ^X end.")
	expect(t, api.ErrUnbound, "f() -> case 1 of X -> X; 2 when ^X -> 1 end.")
	expectRight(t, "f() -> case 1 of 1 -> catch X = 1; 2 -> X = 1, X end.")
	expectRight(t, "f() -> case X = 1 of 1 -> X; 2 when X -> X; X -> X end, X.")
	expect(t, api.ErrUnsafe, "f() -> case catch X = 1 of 1 -> 1; ^X -> 2 end.")
	expect(t, api.ErrUnbound, "f() -> case ^X of X -> X end.")
	expect(t, api.ErrUnsafe, "f() -> case 1 of 1 -> X = 1; 2 -> Y = 1 end, Z = ^Y, X.")
	expect(t, api.ErrUnsafe, "f() -> case 1 of 1 -> X = 1, Y = 1; 2 -> Y = 1 end, Y, ^X.")
}

// A receive is as a case; its body behind after 0 is one clause more, behind after infinity none.
func TestP701Receive(t *testing.T) {
	for _, x := range []string{
		"receive X -> 1 end", "receive 1 -> X = 1 end", "receive 1 -> X = 1; X -> 2 end", "receive 1 -> X = 1 after 0 -> X = 2 end", "receive X -> 1; 2 -> X = 1 after 0 -> 1, X = 2 end", "receive after 0 -> X = 1 end",
		"receive 1 -> X = 1 after infinity -> 2 end", "receive 1 -> X = 1 after infinity -> X = 2 end", "receive 1 -> X = 1; X -> 2 after infinity -> catch X = 2 end", "receive {X} when X -> X end", "receive after 0 -> 1, 2, {X = 1} end",
	} {
		expectBehind(t, 'v', x)
	}
	for _, x := range []string{
		"receive X -> 1; 2 -> 2 end", "receive 1 -> 1; 2 -> X = 1 end", "receive X -> 1 after 0 -> 2 end", "receive 1 -> 1 after 0 -> X = 1 end", "receive 1 -> X = 1; 2 -> 2 after 0 -> X = 3 end", "receive 1 -> X = 1; 2 -> 2 after infinity -> X = 3 end",
		"receive 1 -> X = 1 after 0 -> catch X = 2 end", "receive 1 -> catch X = 1 after 0 -> X = 2 end", "receive after 0 -> catch X = 2 end", "receive 1 -> catch X = 1 after infinity -> X = 2 end",
	} {
		expectBehind(t, 'u', x)
	}
	for _, x := range []string{
		"receive 1 -> 2 end", "receive _ -> 2 after 0 -> 3 end", "receive after infinity -> X = 1 end", "receive 1 -> 1 after infinity -> X = 1 end", "receive after infinity -> catch X = 1 end", "receive after 0 -> 1 end", "receive after infinity -> 1 end",
	} {
		expectBehind(t, 'n', x)
	}
	expect(t, api.ErrUnbound, "f() -> receive X -> 1 after 0 -> ^X end.")
	expect(t, api.ErrUnbound, "f() -> receive X -> 1 after infinity -> ^X end.")
	expect(t, api.ErrUnbound, "f() -> receive X -> 1; 2 -> ^X end.")
	expect(t, api.ErrCall, "f() -> receive after infinity -> ^g() end.")
	expect(t, api.ErrUnsafe, "f() -> catch X = 1, receive after infinity -> ^X = 1 end.")
	expect(t, api.ErrUnsafe, "f() -> catch X = 1, receive after 0 -> ^X end.")
	expectRight(t, "f(X) -> receive X -> X after infinity -> X, Y = X, Y end, X.")
	expectRight(t, "f() -> receive X -> X after 0 -> X = 1, X end, X.")
	expectRight(t, "f() -> receive 1 -> X = 1 after infinity -> catch X = 2 end, X.")
	expectRight(t, "f() -> receive 1 -> 1 after infinity -> Y = 2 end, Y = 1, Y.")
}

func TestP701Try(t *testing.T) {
	for _, x := range []string{
		"try X = 1 catch _ -> 2 end", "try X = 1 after 2 end", "try 1 of X -> 1 catch _ -> 2 end", "try 1 of 1 -> X = 1 after 2 end", "try 1 catch X -> 2 end", "try 1 catch _:X -> 2 end", "try 1 catch 2 -> X = 2 end", "try 1 after X = 2 end",
		"try X = 1 of 1 -> 1 catch 2 -> 2 after 3 end", "try 1 of 1 -> X = 1; 2 -> X = 2 catch _ -> X = 3 after X = 4 end", "try 1 of X -> 1; X -> 2 catch X -> 2; X -> 3 after X = 1 end", "try catch X = 1 after 1 end", "try 1 after catch X = 1 end",
		"try 1 of 1 -> 1; 2 -> catch X = 1 after 1 end", "try 1 catch 1 -> 2; 2 -> catch X = 1 end", "try try X = 1 after 1 end after 1 end", "try 1, {X = 1}, 2 after 3 end",
	} {
		expectBehind(t, 'u', x)
	}
	for _, x := range []string{"try 1 catch _ -> 2 end", "try 1 of 1 -> 2 after 2 end", "try fun(X) -> X end after 2 end", "try 1 of _ -> fun() -> X = 1 end catch _:_ -> fun(X) -> 1 end after 2 end"} {
		expectBehind(t, 'n', x)
	}
	expectRight(t, "f(X) -> try X = 1 of X -> X catch X -> X; _:{X} when X -> X after X end, X.")
	expectBehind(t, 'v', "X = 1, try X of X -> X = 2 catch X -> X = 3 after X = 4 end")
}

// Which parts of a try know what others bind.
func TestP701TryParts(t *testing.T) {
	expectRight(t, "f() -> try X = 1, X of 1 -> X; X -> X; _ when X -> 1 after 2 end.")
	expectRight(t, "f() -> try X = 1 of 1 -> X = 2 after 2 end.")
	for _, x := range []string{"^X", "^X = 2", "{1, ^X} = 2", "case 1 of ^X -> 1 end", "catch ^X", "fun() -> ^X end", "fun(Y) -> ^X = Y end"} {
		expect(t, api.ErrUnsafe, "f() -> try X = 1 catch _ -> "+x+" end.")
		expect(t, api.ErrUnsafe, "f() -> try X = 1 after "+x+" end.")
		expect(t, api.ErrUnsafe, "f() -> try 1, X = 1 of 1 -> X catch 1 -> 1 after "+x+" end.")
		expect(t, api.ErrUnsafe, "f() -> try catch X = 1 of 1 -> "+x+" after 1 end.")
	}
	expect(t, api.ErrUnsafe, "f() -> try X = 1 catch ^X -> 2 end.")
	expect(t, api.ErrUnsafe, "f() -> try X = 1 catch error:^X -> 2 end.")
	expect(t, api.ErrUnsafe, "f() -> try X = 1 catch 1 -> 2; _:{1, ^X} -> 2 end.")
	expect(t, api.ErrUnsafe, "f() -> try X = 1 catch 1 when ^X -> 2 end.")
	expect(t, api.ErrUnsafe, "f() -> try catch X = 1 catch ^X -> 2 end.")
	expect(t, api.ErrUnsafe, "f() -> try catch X = 1 after ^X end.")
	expect(t, api.ErrUnsafe, "f() -> try catch X = 1 of ^X -> 1 after 2 end.")
	expectRight(t, "f() -> try X = 1 catch _ -> fun(X) -> X end after fun(X) -> X end end.")
	expectRight(t, "f() -> try 1 of X -> X; {X} -> X catch X -> X; _:X -> X after X = 1, X end.")
	expectRight(t, "f() -> try 1 of 1 -> catch X = 1; X -> X catch 1 -> catch X = 1; X -> X after X = 1, X end.")
	expect(t, api.ErrUnbound, "f() -> try 1 of X -> 1; 2 -> ^X after 1 end.")
	expect(t, api.ErrUnbound, "f() -> try 1 of X -> 1 catch 2 -> ^X end.")
	expect(t, api.ErrUnbound, "f() -> try 1 of X -> 1 after ^X end.")
	expect(t, api.ErrUnbound, "f() -> try 1 catch X -> 1; 2 -> ^X end.")
	expect(t, api.ErrUnbound, "f() -> try 1 catch X -> 1 after ^X end.")
	expect(t, api.ErrUnbound, "f() -> try ^X of X -> 1 catch X -> 1 after X = 1 end.")
	expect(t, api.ErrUnbound, "f() -> try 1 of 1 -> ^X catch _ -> g() after h() end.")
	expect(t, api.ErrUnbound, "f() -> try 1 of 1 -> 1 catch _ -> ^X after h() end.")
	expect(t, api.ErrCall, "f() -> try 1 of 1 -> 1 catch _ -> 1 after ^h() end, X.")
	expectRight(t, "f() -> X = 1, try Y = X of 1 -> {X, Y} catch Z -> {X, Z} after X end, X.")
}

// A fun's patterns bear new variables, whatever these names were; what it binds is nothing behind.
func TestP701Funs(t *testing.T) {
	for _, x := range []string{"fun() -> X = 1 end", "fun(X) -> X end", "fun() -> catch X = 1 end", "fun(X) -> 1; (_) -> X = 2 end", "fun() -> case 1 of 1 -> X = 1; 2 -> 2 end end", "{fun(X) -> 1 end, fun() -> X = 1, X end}"} {
		expectBehind(t, 'n', x)
	}
	expectBehind(t, 'v', "X = 1, fun(X) -> X end")
	expectBehind(t, 'v', "X = 1, fun() -> X = 1 end")
	expectBehind(t, 'u', "catch X = 1, fun(X) -> X end")
	expectBehind(t, 'v', "{fun() -> X = 1 end, X = 1}")
	expectRight(t, "f(X) -> fun(X) -> X; (Y) -> X + Y end.")
	expectRight(t, "f(X) -> fun(X, X, {X}) when X -> X end, X.")
	expectRight(t, "f() -> catch X = 1, fun(X) -> X, X = 1 end.")
	expectRight(t, "f() -> catch X = 1, fun({[1, X | _]}, Y = X) when X -> fun() -> X end end.")
	expect(t, api.ErrUnsafe, "f() -> catch X = 1, fun(X) -> X; (_) -> ^X end.")
	expect(t, api.ErrUnsafe, "f() -> catch X = 1, fun(_) -> ^X = 1; (X) -> X end.")
	expect(t, api.ErrUnsafe, "f() -> catch X = 1, fun(Y) when ^X -> 1 end.")
	expect(t, api.ErrUnsafe, "f() -> catch X = 1, fun() -> fun(X) -> 1 end, ^X end.")
	expect(t, api.ErrUnbound, "f() -> fun(X) -> X; (Y) -> ^X end.")
	expect(t, api.ErrUnbound, "f() -> fun(X) -> 1; (_) when ^X -> 1 end.")
	expect(t, api.ErrUnbound, "f() -> fun() -> ^X end, X = 1.")
	expect(t, api.ErrUnbound, "f() -> X = fun() -> ^X end.")
	expect(t, api.ErrUnbound, "f() -> fun(_) -> ^_ end.")
	expectRight(t, "f(X) -> fun(Y) -> fun(X) -> {X, Y} end, X end.")
	expectRight(t, "f() -> fun() -> X = 1 end, fun() -> X = 2, X end, fun(X) -> X end, X = 1.")
	expect(t, api.ErrUnsafe, "f() -> fun(X) -> catch Y = X, ^Y end.")
	expectRight(t, "f() -> fun(X) -> case 1 of 1 -> Y = X; Y -> X end, Y end.")
	expectRight(t, "f() -> fun() -> catch X = 1; () -> X = 1, X end.")
	expect(t, api.ErrPattern, "f(X) -> fun(X, ^g(Y)) -> Z end.")
	expect(t, api.ErrPattern, "f() -> catch X = 1, fun(^fun(X) -> X end) -> X end.")
}

// Where several faults are, the first one of the walk is told.
func TestP6First(t *testing.T) {
	expect(t, api.ErrPattern, "f(^f()) when f() -> X.")
	expect(t, api.ErrGuard, "f() when ^f() -> X.")
	expect(t, api.ErrUnbound, "f() -> ^X, g(). g(f()) -> 1.")
	expect(t, api.ErrPattern, "f() -> 1; f() -> case 1 of ^f() -> X end. h() -> Y.")
	expect(t, api.ErrUnbound, "f() -> case ^X of f() when f() -> g() end.")
	expect(t, api.ErrGuard, "f() -> case 1 of X when X, ^f() -> Z; f() -> 1 end.")
	expect(t, api.ErrUnbound, "f() -> f() = begin g(1, ^X) end.")
	expect(t, api.ErrUnsafe, "f() -> catch X = 1, case 1 of 1 -> ^X; 2 -> g() end.")
	expect(t, api.ErrUnbound, "f() -> receive 1 -> ^X after 0 -> g() end.")
	expect(t, api.ErrUnbound, "f() -> ^X(Y, g()).")
	expect(t, api.ErrCall, "f() -> ^fun g/0 + X.")
}
