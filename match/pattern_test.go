package match_test

import (
	"strings"
	"testing"

	"exitwave/api"
	"exitwave/match"
	"exitwave/term"
)

// Each kind of node as a pattern, and the texts of the terms that it matches among all kinds of terms.
func TestP802Kinds(t *testing.T) {
	texts := map[string]int{}
	for _, v := range kinds() {
		s, _ := term.Text(v)
		texts[s]++
	}
	f := func(x float64) string { s, _ := term.Text(float(x)); return s }
	for _, c := range []struct {
		pattern string
		want    []string // nil: all
	}{
		{"0", []string{"0"}}, {"-0", []string{"0"}}, {"1", []string{"1"}}, {"-1", []string{"-1"}}, {"97", []string{"97"}},
		{"576460752303423487", []string{"576460752303423487"}}, {"-576460752303423487", []string{"-576460752303423487"}},
		{"0.0", []string{f(0)}}, {"-0.0", []string{f(minus)}}, {"1.0", []string{f(1)}}, {"-1.5", []string{f(-1.5)}}, {"#43a0000000000000", []string{f(0x1p59)}},
		{"a", []string{"a"}}, {"''", []string{"''"}}, {"'_'", []string{"'_'"}}, {"'X'", []string{"'X'"}}, {"true", []string{"true"}}, {"c", []string{}},
		{`""`, []string{"[]"}}, {`"a"`, []string{"[97]"}}, {`"ab"`, []string{"[97,98]"}}, {`"b"`, []string{}},
		{"_", nil}, {"_ = _", nil},
		{"{}", []string{"{}"}}, {"{_}", []string{"{1}", "{" + f(1) + "}", "{{}}", "{[]}"}}, {"{1}", []string{"{1}"}}, {"{1.0}", []string{"{" + f(1) + "}"}}, {"{_, 1}", []string{"{a,1}"}}, {"{{}}", []string{"{{}}"}}, {`{""}`, []string{"{[]}"}}, {"{1, 2, 1}", []string{"{1,2,1}"}},
		{"[]", []string{"[]"}}, {"[_]", []string{"[1]", "[" + f(1) + "]", "[97]", "[a]", "[[]]"}}, {"[1]", []string{"[1]"}}, {"[a]", []string{"[a]"}}, {"[[]]", []string{"[[]]"}}, {"[97, 98]", []string{"[97,98]"}}, {"[97.0, _]", []string{"[" + f(97) + ",98]"}}, {"[1, 2]", []string{"[1,2]"}},
		{"[1 | _]", []string{"[1]", "[1,2]", "[1,2,3]"}}, {"[_, _ | _]", []string{"[97,98]", "[" + f(97) + ",98]", "[1,2]", "[1,2,3]"}}, {"[_, _, _ | _]", []string{"[1,2,3]"}}, {"[_, _, _, _ | _]", []string{}},
		{`[97 | "b"]`, []string{"[97,98]"}}, {`[_ | ""]`, []string{"[1]", "[" + f(1) + "]", "[97]", "[a]", "[[]]"}}, {"[1 | [2 | [3]]]", []string{"[1,2,3]"}}, {"[1 | 2]", []string{}}, {"[_ | {}]", []string{}}, {"[_ | a]", []string{}},
		{"[1 | _] = [_, _]", []string{"[1,2]"}}, {"[_, _] = [1 | _]", []string{"[1,2]"}}, {"{_, _} = [_, _]", []string{}}, {"1 = 1", []string{"1"}}, {"1 = 1.0", []string{}}, {"0.0 = -0.0", []string{}},
	} {
		want := map[string]int{}
		for _, s := range c.want {
			if texts[s] != 1 {
				t.Fatalf("%s: no such term", s)
			}
			want[s] = 1
		}
		for _, v := range kinds() {
			s, _ := term.Text(v)
			says := "no"
			if c.want == nil || want[s] == 1 {
				says = ""
			}
			expectPattern(t, c.pattern, v, nil, says)
		}
	}
}

// A variable that is not bound matches all, and has it as its value; one that is bound what is identical.
func TestP802Variables(t *testing.T) {
	for _, v := range kinds() {
		s, _ := term.Text(v)
		expectPattern(t, "X", v, nil, "X "+s)
		expectPattern(t, "X", v, env{}, "X "+s)
		expectPattern(t, "_X", v, env{"X": whole(5)}, "X 5; _X "+s)
		expectPattern(t, "X = Y", v, nil, "X "+s+"; Y "+s)
		expectPattern(t, "X = X", v, nil, "X "+s)
		for _, w := range kinds() {
			says := "no"
			if u, _ := term.Text(w); u == s {
				says = "X " + s
			}
			expectPattern(t, "X", v, env{"X": w}, says)
			expectPattern(t, "{X, X}", tuple(v, w), nil, says)
			expectPattern(t, "[X | [X]]", list(v, w), nil, says)
		}
	}
}

func TestP802Nobody(t *testing.T) {
	for _, v := range kinds() {
		expectPattern(t, "_", v, env{"Y": whole(1)}, "Y 1")
		expectPattern(t, "_", v, env{"_": atom("other")}, "_ other")
		expectPattern(t, "{_, _}", tuple(v, whole(1)), nil, "")
		expectPattern(t, "[_, _ | _]", list(v, whole(1)), env{"X": whole(2)}, "X 2")
	}
	expectPattern(t, "{__, __}", tuple(whole(1), whole(2)), nil, "no")
	expectPattern(t, "{__, __}", tuple(whole(1), whole(1)), nil, "__ 1")
}

// Bound ahead, by an earlier element, by an earlier pattern, deep inside.
func TestP802Bound(t *testing.T) {
	two := tuple(whole(1), whole(2))
	expectPattern(t, "{X, Y}", two, env{"X": whole(1)}, "X 1; Y 2")
	expectPattern(t, "{X, Y}", two, env{"X": float(1)}, "no")
	expectPattern(t, "{X, Y}", two, env{"Y": whole(2), "Z": list(two)}, "X 1; Y 2; Z [{1,2}]")
	expectPattern(t, "{X, {Y, X}}", tuple(whole(1), tuple(whole(2), whole(1))), nil, "X 1; Y 2")
	expectPattern(t, "{X, {Y, X}}", tuple(whole(1), tuple(whole(2), whole(2))), nil, "no")
	expectPattern(t, "{{X, Y}, X, Y}", tuple(two, whole(1), whole(2)), nil, "X 1; Y 2")
	expectPattern(t, "{{X, Y}, Y, X}", tuple(two, whole(1), whole(2)), nil, "no")
	expectPattern(t, "[X, Y | X]", list(list(whole(3)), whole(2), whole(3)), nil, "X [3]; Y 2")
	expectPattern(t, "[X, Y | X]", list(list(float(3)), whole(2), whole(3)), nil, "no")
	expectPattern(t, "[X | X]", list(list()), nil, "X []")
	expectPattern(t, "[X | Y]", list(whole(1), whole(2)), env{"Y": list(whole(2))}, "X 1; Y [2]")
	expectPattern(t, "[X | Y]", list(whole(1), whole(2)), env{"Y": list()}, "no")
	expectPattern(t, "X = {X}", tuple(whole(1)), nil, "no")
	expectPattern(t, "{X} = X", tuple(whole(1)), nil, "no")
	expectPattern(t, "{X, Z} = {Y, Y}", tuple(whole(1), whole(1)), nil, "X 1; Y 1; Z 1")
	expectPattern(t, "{X, Z} = {Y, Y}", two, nil, "no")
	expectPattern(t, "X = Y = {Z, _}", two, nil, "X {1,2}; Y {1,2}; Z 1")
	expectPattern(t, "(X = Y) = {Z, X}", two, nil, "no")
	expectPattern(t, "{X = 1, Y = X}", tuple(whole(1), whole(1)), nil, "X 1; Y 1")
}

func TestP802Zeros(t *testing.T) {
	expectPattern(t, "{X, X}", tuple(float(0), float(minus)), nil, "no")
	expectPattern(t, "{X, X}", tuple(float(minus), float(minus)), nil, "X #8000000000000000")
	expectPattern(t, "{X, X}", tuple(whole(0), float(0)), nil, "no")
	expectPattern(t, "X", float(minus), env{"X": float(0)}, "no")
	expectPattern(t, "[X]", list(list(whole(1), float(0))), env{"X": list(whole(1), float(minus))}, "no")
	expectPattern(t, "#8000000000000000", float(minus), nil, "")
	expectPattern(t, "#8000000000000000", float(0), nil, "no")
	expectPattern(t, "-#8000000000000000", float(0), nil, "")
	expectPattern(t, "9007199254740993", float(1<<53), nil, "no")
	expectPattern(t, "9007199254740992", float(1<<53), nil, "no")
}

// A string is a list of whole numbers, and a list of whole numbers is a string.
func TestP802Strings(t *testing.T) {
	expectPattern(t, `[X, Y]`, text("ab"), nil, "X 97; Y 98")
	expectPattern(t, `[X | T]`, text("ab"), nil, "T [98]; X 97")
	expectPattern(t, `[97 | "bc"]`, text("abc"), nil, "")
	expectPattern(t, `[97, X | "c"]`, text("abc"), nil, "X 98")
	expectPattern(t, `"ab"`, list(whole(97), float(98)), nil, "no")
	expectPattern(t, `"ab"`, text("a"), nil, "no")
	expectPattern(t, `"ab"`, text("abc"), nil, "no")
	expectPattern(t, `"ab"`, atom("ab"), nil, "no")
	expectPattern(t, `"ab"`, tuple(whole(97), whole(98)), nil, "no")
	expectPattern(t, `""`, list(), nil, "")
	expectPattern(t, `[]`, text(""), nil, "")
	expectPattern(t, `""`, list(list()), nil, "no")
	expectPattern(t, `""`, tuple(), nil, "no")
	expectPattern(t, `""`, atom(""), nil, "no")
	expectPattern(t, `"\xff\x00"`, list(whole(255), whole(0)), nil, "")
	expectPattern(t, `X = "ab"`, text("ab"), nil, "X [97,98]")
}

// NCons: as many elements as stand ahead of its last one, more, fewer.
func TestP802Rest(t *testing.T) {
	for ahead := 1; ahead < 6; ahead++ {
		pattern := "[" + strings.Repeat("_, ", ahead-1) + "_ | T]"
		for n := range 9 {
			var l []api.Term
			for i := range n {
				l = append(l, whole(int64(i)))
			}
			want := "no"
			if n >= ahead {
				s, _ := term.Text(list(l[ahead:]...))
				want = "T " + s
			}
			expectPattern(t, pattern, list(l...), nil, want)
			expectPattern(t, pattern, tuple(l...), nil, "no")
			expectPattern(t, pattern, fun(0, l...), nil, "no")
		}
	}
	expectPattern(t, "[X | [Y | T]]", list(whole(1), whole(2), whole(3)), nil, "T [3]; X 1; Y 2")
	expectPattern(t, "[X | [Y | T]]", list(whole(1)), nil, "no")
	expectPattern(t, "[X | []]", list(whole(1)), nil, "X 1")
	expectPattern(t, "[X | []]", list(whole(1), whole(2)), nil, "no")
	expectPattern(t, "[X | [Y]]", list(whole(1), whole(2)), nil, "X 1; Y 2")
	expectPattern(t, "[X | {T}]", list(whole(1), tuple(whole(2))), nil, "no")
	expectPattern(t, "[X | (T = [_])]", list(whole(1), whole(2)), nil, "T [2]; X 1")
	expectPattern(t, "[1, 2 | T]", list(whole(1), float(2)), nil, "no")
}

// What is bound is env and what the pattern binds, no more: variables of env stay, whether the pattern has them or not.
func TestP802Env(t *testing.T) {
	e := env{}
	want := "Q 0"
	for i, v := range kinds() {
		if i < 26 {
			s, _ := term.Text(v)
			e["V"+string(rune('a'+i))] = v
			want += "; V" + string(rune('a'+i)) + " " + s
		}
	}
	expectPattern(t, "Q", whole(0), e, want)
	expectPattern(t, "{Q, Q, Va}", tuple(whole(0), whole(0), whole(0)), e, want)
	expectPattern(t, "{Q, Vb}", tuple(whole(0), whole(0)), e, "no")
}

// Terms as great and as deep as may be.
func TestP802Great(t *testing.T) {
	deep := nested(api.KTuple, api.MaxDepth-1, whole(1))
	s, _ := term.Text(deep)
	expectPattern(t, "X", deep, env{"X": deep}, "X "+s)
	inner, _ := term.Text(nested(api.KTuple, 1, whole(1)))
	expectPattern(t, strings.Repeat("{", 198)+"X"+strings.Repeat("}", 198), deep, nil, "X "+inner)
	expectPattern(t, strings.Repeat("{", 197)+"X"+strings.Repeat("}", 197), nested(api.KList, api.MaxDepth-1, whole(1)), nil, "no")
	long := list(times(api.MaxWords/2, whole(1))...)
	x, n := patternOf(t, "[X, Y | T]")
	bound, is := askPattern(t, x, n, long, env{"L": long})
	if !is || len(bound) != 4 || len(bound["T"].L) != api.MaxWords/2-2 || len(bound["L"].L) != api.MaxWords/2 {
		t.Errorf("P802 a long list: %v", is)
	}
	x, n = patternOf(t, "["+strings.Repeat("X,", 8000)+"Y|T]")
	bound, is = askPattern(t, x, n, long, nil)
	if !is || len(bound) != 3 || len(bound["T"].L) != api.MaxWords/2-8001 {
		t.Errorf("P802 a long pattern: %v", is)
	}
	long.L[7999] = float(1)
	if _, is = askPattern(t, x, n, long, nil); is {
		t.Error("P802 a long pattern: matches one that differs")
	}
}

// What is told may be handed in again, and changed, as the caller's own.
func TestP802OwnMap(t *testing.T) {
	x, n := patternOf(t, "{X, [Y | T]}")
	e := env{"Z": list(whole(9))}
	v := tuple(list(whole(1)), list(whole(2), whole(3)))
	a, _ := match.Pattern(x, n, v, e)
	b, _ := match.Pattern(x, n, v, a)
	a["X"] = atom("a")
	a["T"].L[0] = atom("a")
	a["Z"].L[0] = atom("a")
	delete(a, "Y")
	if got := saidEnv(b); got != "T [3]; X [1]; Y 2; Z [9]" {
		t.Errorf("P2: %s", got)
	}
	if got := saidEnv(e); got != "Z [9]" {
		t.Errorf("P2: env is %s", got)
	}
	if got := said(v); got != "{[1],[2,3]}" {
		t.Errorf("P2: the term is %s", got)
	}
}
