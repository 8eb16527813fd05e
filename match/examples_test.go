package match_test

import (
	"testing"

	"exitwave/api"
)

func TestExample1(t *testing.T) {
	expectPattern(t, "{X, [Y | T], X}", tuple(whole(1), list(whole(2), whole(3)), whole(1)), nil, "T [3]; X 1; Y 2")
	expectPattern(t, "{X, [Y | T], X}", tuple(whole(1), list(whole(2)), float(1)), nil, "no")
	expectPattern(t, "{X, [Y | T], X}", tuple(whole(1), list(whole(2)), whole(1)), nil, "T []; X 1; Y 2")
}

func TestExample2(t *testing.T) {
	expectPattern(t, "-0.0", float(0), nil, "no")
	expectPattern(t, "-0.0", float(minus), nil, "")
	expectPattern(t, `"ab"`, list(whole(97), whole(98)), nil, "")
	expectPattern(t, "[A, B | C]", list(whole(1), whole(2)), nil, "A 1; B 2; C []")
	expectPattern(t, "[A, B | C]", list(whole(1)), nil, "no")
}

func TestExample3(t *testing.T) {
	guard := "X > 1, is_atom(hd(L))"
	expectGuard(t, guard, env{"X": whole(2), "L": list()}, false)
	expectGuard(t, guard, env{"X": whole(2), "L": list(atom("a"))}, true)
	expectGuard(t, guard, env{"X": whole(1), "L": list(atom("a"))}, false)
	expectClause(t, "(X, L) when "+guard, []api.Term{whole(2), list()}, nil, "no")
}
