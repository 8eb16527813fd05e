package eval_test

import (
	"fmt"
	"strings"
	"testing"

	"exitwave/api"
	"exitwave/bif"
	"exitwave/check"
)

func TestP1002Functions(t *testing.T) {
	for _, c := range []struct{ expr, want string }{
		{"twice(4)", "8"}, {"pair(1, 2)", "{1,2}"}, {"none()", "none"}, {"fact(5)", "120"}, {"only(2)", "1"}, {"only(1)", "error function_clause"}, {"only(2.0)", "error function_clause"}, {"fact(-1)", "error function_clause"},
		{"twice(a)", "error badarith"}, {"twice(twice(twice(1)))", "8"}, {"X = 5, pair(X, twice(X))", "{5,10}"},
	} {
		expectExpr(t, c.expr, c.want)
	}
	// Variables of one call are none of another one's.
	start(t, "f(X) -> Y = X + 1, {g(Y), X, Y}. g(X) -> Y = X * 10, {X, Y}.", "f", whole(1)).stops("{{2,20},1,2}")
	start(t, "f(X) -> {g(X), X}. g(X) -> h(X, 1), h(X, 2). h(X, Y) -> {X, Y}.", "f", whole(0)).stops("{{0,2},0}")
	start(t, "f(N) -> {X, Y} = g(N), {X, Y, N}. g(N) -> X = N, h(X). h(X) -> {X, a}.", "f", whole(3)).stops("{3,a,3}")
	// Number and name tell functions apart.
	start(t, "f() -> {g(), g(1), g(1, 2)}. g() -> 0. g(_) -> 1. g(_, _) -> 2.", "f").stops("{0,1,2}")
	start(t, "f() -> g(1); f() -> 2. g(X) when X > 1 -> a; g(1) -> b; g(_) -> c.", "f").stops("b")
	// The highest number of arguments.
	var l, sum []string
	for i := range api.MaxArity {
		l = append(l, fmt.Sprint("X", i))
		sum = append(sum, fmt.Sprint(i))
	}
	start(t, "f() -> g("+strings.Join(sum, ",")+"). g("+strings.Join(l, ",")+") -> "+strings.Join(l, " + ")+".", "f").stops("120")
	// Even and odd, each in the other one's last place.
	start(t, "e(0) -> true; e(N) -> o(N - 1). o(0) -> false; o(N) -> e(N - 1).", "e", whole(4001)).stops("false")
}

// A function of the module is called ahead of a builtin of its name and number; in a guard the builtin is.
func TestP1002FunctionsAheadOfBuiltins(t *testing.T) {
	for _, c := range []struct{ name, args, want string }{
		{"length", "[1]", "mine"}, {"self", "", "mine"}, {"exit", "1", "mine"}, {"exit", "1, 2", "mine"}, {"throw", "1", "mine"}, {"error", "1", "mine"}, {"send", "1, 2", "mine"}, {"out", "1", "mine"}, {"spawn", "1", "mine"}, {"hd", "[]", "mine"},
	} {
		params := strings.Repeat(",_", strings.Count(c.args+",", ","))[1:]
		if c.args == "" {
			params = ""
		}
		start(t, "f() -> "+c.name+"("+c.args+"). "+c.name+"("+params+") -> mine.", "f").stops(c.want)
	}
	start(t, "f() -> exit(1). exit(_, _) -> mine.", "f").stops("exit 1")
	start(t, "f() -> exit(1, 2). exit(_) -> mine.", "f").stops("ask exit [1,2]")
	start(t, "f() -> 1 ! 2. send(_, _) -> mine.", "f").stops("ask send [1,2]")
	start(t, "f(L) when length(L) == 2 -> length(L). length(_) -> mine.", "f", list(whole(1), whole(2))).stops("mine")
	start(t, "f() -> {1 + 2, -(3), '+'(4, 5)}. '+'(X, Y) -> {X, Y}.", "f").stops("{3,-3,{4,5}}")
}

func TestP1002Builtins(t *testing.T) {
	for _, c := range []struct{ expr, want string }{
		{"length([1, 2])", "2"}, {"length(1)", "error badarg"}, {"abs(-2)", "2"}, {"abs(a)", "error badarg"}, {"hd([])", "error badarg"}, {"element(2, {a, b})", "b"}, {"element(3, {a, b})", "error badarg"}, {"setelement(1, {a}, b)", "{b}"},
		{"reverse([1, 2])", "[2,1]"}, {"sort([b, a])", "[a,b]"}, {"list_to_atom(\"ab\")", "ab"}, {"list_to_integer(\"9999999999999999999\")", "error system_limit"}, {"bits(\"7ff0000000000000\")", "error badarith"}, {"size({a})", "2"}, {"member(1, [1.0])", "false"}, {"trunc(1.5)", "1"},
		{"is_function(fun twice/1, 1)", "true"}, {"is_function(fun twice/1, 2)", "false"}, {"is_function(fun(_, _) -> 1 end, 2)", "true"}, {"is_function(a, 2)", "false"}, {"is_function(fun twice/1, a)", "error badarg"}, {"X = 1, is_function(fun(_) -> X end, 1)", "true"},
	} {
		expectExpr(t, c.expr, c.want)
	}
	for _, f := range []api.Term{fun(0), fun(9999), fun(0, whole(1))} {
		for n := range 3 {
			expectOf(t, fmt.Sprintf("is_function(X, %d)", n), f, "false")
		}
	}
	expectOf(t, "is_function(X)", fun(0), "true")
}

// Every builtin that needs no process tells what bif.Call tells, of terms of each kind.
func TestP1002EveryBuiltin(t *testing.T) {
	arguments := []api.Term{whole(1), whole(-3), float(2.5), atom("true"), list(), list(whole(97), whole(49)), tuple(atom("a"), whole(2)), pid(1), ref(2), fun(0)}
	names := strings.Fields("abs float trunc round floor ceil hd tl length tuple_size element is_atom is_integer is_float is_number is_list is_tuple is_pid is_reference is_function is_boolean min max setelement tuple_to_list list_to_tuple atom_to_list list_to_atom integer_to_list list_to_integer float_to_list bits reverse sort member nth size")
	seen := 0
	for _, name := range names {
		for n := range 4 {
			if is, _ := bif.Is(name, n); !is {
				continue
			}
			seen++
			for i := range arguments {
				l := []api.Term{arguments[i], arguments[(i*7+6)%len(arguments)], arguments[(i+3)%len(arguments)]}[:n]
				want := ""
				if x, e := bif.Call(name, l, func(api.Term) int { return -1 }); e == api.OK {
					want = said(x)
				} else {
					want = "error " + e.Error()
				}
				vars := []string{"A", "B", "C"}[:n]
				m := start(t, "f("+strings.Join(vars, ",")+") -> "+name+"("+strings.Join(vars, ",")+").", "f", l...)
				m.expect(3, want, 1)
			}
		}
	}
	if seen != 38 {
		t.Errorf("%d builtins; want 38", seen)
	}
}

func TestP1002Raises(t *testing.T) {
	for _, x := range kinds() {
		for _, class := range []string{"error", "exit", "throw"} {
			start(t, "f(X) -> "+class+"(X).", "f", x).expect(5, class+" "+said(x), 3)
		}
	}
}

// asking: the builtins that ask the process, with their arguments, as chapter 7's table has them.
const asking = "self/0 make_ref/0 spawn/1 spawn_link/1 spawn_monitor/1 link/1 unlink/1 demonitor/1 unregister/1 whereis/1 is_process_alive/1 out/1 monitor/2 demonitor/2 exit/2 process_flag/2 register/2"

func TestP1002Asks(t *testing.T) {
	for _, s := range strings.Fields(asking) {
		name, n := s[:len(s)-2], int(s[len(s)-1]-'0')
		if _, _, asks := check.Builtin(name, n); !asks {
			t.Fatalf("%s asks nothing", s)
		}
		vars := []string{"X", "Y"}[:n]
		l := []api.Term{list(atom("a")), tuple(whole(1))}[:n]
		functions := "f(" + strings.Join(vars, ",") + ") -> {" + name + "(" + strings.Join(vars, ",") + ")}."
		ask := "ask " + name + " " + said(list(l...))
		m := start(t, functions, "f", l...)
		m.expect(1, "spent", 0)
		m.expect(1, ask, 0)
		m.gives(list(pid(4)))
		m.expect(0, "{[#Pid4]}", 0)
		m = start(t, functions, "f", l...)
		m.expect(9, ask, 7)
		if e := m.fail(api.CError, atom("no")); e != api.OK {
			t.Errorf("P1003 %s: Fail: %v", s, e)
		}
		m.expect(4, "error no", 4)
	}
}

func TestP1002Send(t *testing.T) {
	for _, x := range kinds() {
		m := start(t, "f(X) -> Y = (a ! X), {Y}.", "f", x)
		m.expect(1, "ask send "+said(list(atom("a"), x)), 0)
		m.gives(atom("sent"))
		m.expect(0, "{sent}", 0)
		if s := said(list(x, x)); !strings.Contains(s, "not right") { // the list is for saying alone
			m = start(t, "f(X) -> X ! X.", "f", x)
			m.expect(1, "ask send "+s, 0)
		}
	}
	start(t, "f() -> a ! b ! c.", "f").stops("ask send [b,c]")
}
