package eval_test

import (
	"testing"

	"exitwave/api"
)

func TestP1002Try(t *testing.T) {
	for _, c := range []struct{ expr, want string }{
		// With a value.
		{"try 1 catch _:_ -> 2 end", "1"}, {"try 1, 2 catch _:_ -> 3 end", "2"}, {"try 1 of 1 -> a catch _:_ -> b end", "a"}, {"try 2 of 1 -> a; X when X > 2 -> b; X -> {X} catch _:_ -> b end", "{2}"},
		{"try 1 of 2 -> 3 catch _:Y -> {Y} end", "error try_clause"}, {"try 1 of 2 -> 3 catch error:try_clause -> caught end", "error try_clause"}, {"try try 1 of 2 -> 3 catch _:Y -> Y end catch error:Z -> {Z} end", "{try_clause}"},
		{"try X = 1, X + 1 of Y -> {X, Y} catch _:_ -> 1 end", "{1,2}"}, {"try X = 1 of X -> same catch _:_ -> 1 end", "same"}, {"try 1 of _ -> exit(a) catch _:_ -> caught end", "exit a"}, {"try 1 of _ -> error(a) catch error:a -> caught after 2 end", "error a"},
		// With a raise.
		{"try exit(a) of X -> X catch exit:Y -> {Y} end", "{a}"}, {"try throw(a) catch Y -> {Y} end", "{a}"}, {"try throw(a) catch throw:Y -> {Y} end", "{a}"}, {"try error(a) catch error:Y -> {Y} end", "{a}"}, {"try exit(a) catch _:Y -> {Y} end", "{a}"},
		{"try error(a) catch Y -> Y end", "error a"}, {"try exit(a) catch Y -> Y end", "exit a"}, {"try error(a) catch exit:Y -> Y; throw:Y -> Y end", "error a"}, {"try throw(a) catch error:Y -> Y; exit:Y -> Y end", "throw a"}, {"try exit(a) catch error:Y -> Y; throw:Y -> Y end", "exit a"},
		{"try error(a) catch exit:_ -> 1; error:_ -> 2; _:_ -> 3 end", "2"}, {"try throw({1, 2}) catch {X, X} -> 1; {X, Y} -> Y end", "2"}, {"try error(a) catch _:Y when Y == b -> 1; _:_ -> 2 end", "2"}, {"try error(a) catch _:Y when Y == b -> 1 end", "error a"}, {"try error(a) catch _:b -> 1 end", "error a"},
		{"try throw(1.0) catch 1 -> a; 1.0 -> b end", "b"}, {"try twice(a) catch error:X -> X end", "badarith"}, {"try only(1) catch error:X -> X end", "function_clause"}, {"try (a)() catch error:X -> X end", "badfun"}, {"try (fun none/0)(1) catch error:X -> X end", "badarity"},
		{"try 1 = 2 catch error:X -> X end", "badmatch"}, {"try case 1 of 2 -> 3 end catch error:X -> X end", "case_clause"}, {"try [1 | 2] catch error:X -> X end", "badarg"}, {"try {1, {2, [3, twice(exit(a))]}} catch exit:X -> X end", "a"},
		{"try throw(a) catch a -> exit(b) end", "exit b"}, {"try throw(a) catch a -> throw(b); b -> 1 end", "throw b"}, {"try throw(a) of _ -> 1 catch a -> throw(b); b -> 1 end", "throw b"}, {"try try throw(a) catch a -> throw(b) end catch b -> outer end", "outer"},
		// The last body.
		{"try 1 after 2 end", "1"}, {"try exit(a) after 2 end", "exit a"}, {"try exit(a) after exit(b) end", "exit b"}, {"try 1 after exit(b) end", "exit b"}, {"try throw(a) after error(b) end", "error b"}, {"try 1 of 2 -> 3 after exit(b) end", "exit b"}, {"try 1 of 2 -> 3 after 4 end", "error try_clause"},
		{"try exit(a) catch exit:X -> {X} after 1 end", "{a}"}, {"try exit(a) catch exit:_ -> throw(b) after 1 end", "throw b"}, {"try exit(a) catch exit:_ -> throw(b) after throw(c) end", "throw c"}, {"try 1 of X -> {X} after 5 end", "{1}"},
		{"try try exit(a) after throw(b) end catch b -> inner; exit:a -> outer end", "inner"}, {"try 1 after try exit(a) catch exit:_ -> 2 end end", "1"}, {"try throw(a) catch b -> 1 after 2 end", "throw a"}, {"try throw(a) catch a -> 1 after 2, 3 end", "1"},
	} {
		expectExpr(t, c.expr, c.want)
	}
}

// What is bound ahead of the try is seen in all of it; what its body bound is seen in the clauses of o alone.
func TestP1002TryVariables(t *testing.T) {
	for _, c := range []struct{ expr, want string }{
		{"try exit(X) catch exit:Y -> {X, Y} end", "{1,1}"}, {"try exit(2) catch exit:X -> same; exit:Y -> {X, Y} end", "{1,2}"}, {"try exit(1) catch exit:X -> same end", "same"}, {"try 2 of X -> same; _ -> {X} after X = 1 end", "{1}"},
		{"try exit(2) after X = 1 end", "exit 2"}, {"try 5 after X = 2 end", "error badmatch"}, {"try throw(a) catch a -> Y = X, {Y} after Z = X, {Z} end", "{1}"}, {"{try Y = 2, Y of Z -> {Z, Y} after 1 end, X}", "{{2,2},1}"},
		{"Y = 3, Z = try W = X, W after {Y} end, {X, Y, Z}", "{1,3,1}"}, {"try Y = 2, exit(Y) catch _:Z -> F = fun(Y) -> {X, Y, Z} end, F(9) end", "{1,9,2}"}, {"try Y = 2, Y after F = fun(Y) -> {X, Y} end, {1, 9} = F(9) end", "2"},
		{"Y = (catch begin Z = 2, Z end), F = fun(Z) -> {X, Y, Z} end, F(0)", "{1,2,0}"}, {"try A = 1, {A, B} = {A, 2}, exit(B) catch exit:C -> D = C + X, D end, X", "1"},
	} {
		expectOf(t, c.expr, whole(1), c.want)
	}
	// What a clause of o or of c binds is new in the last body, which may bind it, too.
	for _, c := range []struct{ expr, want string }{
		{"try 1 of _ -> Y = 1, {Y} after Y = 2, Y end", "{1}"}, {"try 1 of Y -> {Y} after Y = 2, {2, 3} = {Y, 3} end", "{1}"}, {"try throw(a) catch Y -> {Y} after Y = 2, Y = 2 end", "{a}"}, {"try throw(a) catch a -> Y = 1, exit(Y) after Y = 2, Y end", "exit 1"},
		{"try 1 of 2 -> Y = 3, Y; _ -> Y = 4, exit(Y) catch exit:4 -> Y = 5, Y after Y = 6, throw({Y}) end", "throw {6}"},
	} {
		expectOf(t, c.expr, whole(1), c.want)
	}
	// A raise out of a call comes back into the variables of the call that catches it.
	start(t, "f(X) -> Y = 2, try g(Y) catch A -> {A, X, Y} end. g(X) -> Z = X + 1, h(Z), 1. h(X) -> {throw({X}), 1}.", "f", whole(1)).stops("{{3},1,2}")
	start(t, "f(X) -> {catch g(X, 1), X}. g(X, Y) -> Z = X + Y, {Z, throw(Z)}.", "f", whole(1)).stops("{2,1}")
}

// The last body is reckoned once, behind all else, whatever came out.
func TestP1002LastBody(t *testing.T) {
	for _, c := range []struct {
		expr string
		asks []string
		want string
	}{
		{"try out(a) after out(z) end", []string{"a", "z"}, "0"}, {"try out(a), exit(b) after out(z) end", []string{"a", "z"}, "exit b"}, {"try out(a) of _ -> out(b) after out(z) end", []string{"a", "b", "z"}, "1"},
		{"try throw(a) catch _ -> out(b) after out(z) end", []string{"b", "z"}, "0"}, {"try throw(a) catch _ -> out(b), exit(c) after out(z) end", []string{"b", "z"}, "exit c"}, {"try 1 of 2 -> out(b) catch _:_ -> out(c) after out(z) end", []string{"z"}, "error try_clause"},
		{"try 1 of 1 -> out(b), exit(d) catch _:_ -> out(c) after out(z) end", []string{"b", "z"}, "exit d"}, {"try try exit(a) after out(y) end after out(z) end", []string{"y", "z"}, "exit a"}, {"try exit(a) catch error:_ -> out(b) after out(z), out(zz) end", []string{"z", "zz"}, "exit a"},
		{"try exit(a) after out(y), throw(b), out(z) end", []string{"y"}, "throw b"}, {"try try exit(a) after out(y), throw(b) end catch _:X -> out(X) end", []string{"y", "b"}, "1"},
	} {
		m := start(t, "f() -> "+c.expr+".", "f")
		for i, a := range c.asks {
			m.stops("ask out [" + a + "]")
			m.gives(whole(int64(i)))
		}
		m.stops(c.want)
	}
	// What is asked may raise, in each place.
	for _, c := range []struct{ expr, want string }{
		{"try out(1) catch throw:X -> {X} end", "{no}"}, {"try out(1) of _ -> a catch throw:X -> {X} end", "{no}"}, {"try 1 of _ -> out(1) catch throw:X -> {X} end", "throw no"}, {"try throw(1) catch 1 -> out(1); X -> {X} end", "throw no"}, {"try 1 after out(1) end", "throw no"}, {"catch out(1)", "no"},
		{"try exit(1) after out(1) end", "throw no"},
	} {
		m := start(t, "f() -> "+c.expr+".", "f")
		m.stops("ask out [1]")
		if e := m.fail(api.CThrow, atom("no")); e != api.OK {
			t.Fatalf("P1003 %s: Fail: %v", c.expr, e)
		}
		m.stops(c.want)
	}
}

func TestP1002Catch(t *testing.T) {
	for _, c := range []struct{ expr, want string }{
		{"catch 3", "3"}, {"catch throw(a)", "a"}, {"catch exit(a)", "{'EXIT',a}"}, {"catch error(a)", "{'EXIT',a}"}, {"catch 1 + a", "{'EXIT',badarith}"}, {"catch hd([])", "{'EXIT',badarg}"}, {"catch catch exit(a)", "{'EXIT',a}"}, {"catch exit(catch exit(a))", "{'EXIT',{'EXIT',a}}"},
		{"{catch throw(a), catch exit(a), catch 1 + a, catch 3}", "{a,{'EXIT',a},{'EXIT',badarith},3}"}, {"catch throw(throw(1))", "1"}, {"begin catch throw(1), 2 end", "2"}, {"catch {1, throw({2})}", "{2}"}, {"catch twice(only(0))", "{'EXIT',function_clause}"}, {"catch try exit(a) after throw(b) end", "b"},
		{"X = 1, {catch throw(X), X}", "{1,1}"}, {"catch begin X = 1, {X} end", "{1}"}, {"try catch exit(a) catch _:_ -> 1 end", "{'EXIT',a}"}, {"case catch throw([1]) of [X] -> X end", "1"}, {"(catch true) andalso (catch exit(b))", "{'EXIT',b}"},
	} {
		expectExpr(t, c.expr, c.want)
	}
}
