package bif_test

import (
	"math"
	"math/rand"
	"strings"
	"testing"

	"exitwave/api"
	"exitwave/bif"
	"exitwave/term"
)

// ring is a list that is an element of itself.
func ring(kind int) api.Term {
	l := make([]api.Term, 1)
	l[0] = api.Term{Kind: kind, L: l}
	return l[0]
}

// bent: terms that are not right, but have an end.
func bent() []api.Term {
	one := []api.Term{whole(1)}
	return []api.Term{
		{}, {Kind: -1}, {Kind: 9, L: one}, {Kind: math.MaxInt}, {Kind: math.MinInt}, whole(api.MaxInt + 1), whole(api.MinInt - 1), whole(math.MinInt64), float(math.NaN()), float(math.Inf(1)), float(math.Inf(-1)),
		atom(strings.Repeat("a", api.MaxAtom+1)), {Kind: api.KAtom, S: "true", N: 1}, {Kind: api.KAtom, S: "true", L: one}, ref(-1), pid(1<<40 + 1), fun(-1), fun(math.MaxInt64), fun(math.MinInt64, one...), fun(api.MaxNodes + 1), fun(1, api.Term{}),
		{Kind: api.KInt, N: 1, L: one}, {Kind: api.KInt, N: 1, S: "a"}, {Kind: api.KFloat, F: 1, N: 1}, {Kind: api.KList, N: 1, L: one}, {Kind: api.KTuple, S: "a", L: one}, {Kind: api.KList, F: minus}, {Kind: api.KFun, N: 1, S: "a"},
		list(api.Term{}), tuple(api.Term{}), list(whole(api.MaxInt + 1)), tuple(float(math.NaN()), whole(1)), list(whole(1), api.Term{Kind: 12}), list(list(api.Term{}), whole(1)),
		nested(api.KList, api.MaxDepth, whole(1)), nested(api.KTuple, api.MaxDepth, whole(1)),
	}
}

// great: terms that have too many words.
func great() []api.Term {
	return []api.Term{list(times(api.MaxWords/2+1, whole(48))...), tuple(times(api.MaxWords, whole(1))...), fun(1, times(api.MaxWords, whole(1))...)}
}

// endless: terms that are not right, and have no end, or hardly one.
func endless() []api.Term {
	double := list()
	for range 100 {
		double = list(double, double)
	}
	return []api.Term{
		ring(api.KList), ring(api.KTuple), ring(api.KFun), ring(api.KInt), ring(api.KAtom), ring(0), list(ring(api.KList)), tuple(whole(1), ring(api.KTuple)), list(whole(1), ring(api.KInt)), double, tuple(double), nested(api.KTuple, 40000, whole(1)),
	}
}

// calls tells all operators and builtins, by their numbers of arguments.
func calls(n int) map[string]tells {
	out := map[string]tells{}
	all, signs := ofOne(), strings.Fields(signsOfOne)
	switch n {
	case 2:
		all, signs = ofTwo(), strings.Fields(signsOfTwo)
	case 3:
		all, signs = []string{ofThree}, nil
	}
	for _, name := range all {
		out["Call "+name] = func(l []api.Term) (api.Term, api.Errno) { return bif.Call(name, l, takes) }
	}
	for _, sign := range signs {
		out["Op "+sign] = func(l []api.Term) (api.Term, api.Errno) { return bif.Op(sign, l) }
	}
	return out
}

// askAll makes all calls in which x stands, in each place, with y in the others.
func askAll(t *testing.T, x, y api.Term) {
	t.Helper()
	for name, call := range calls(1) {
		ask(t, name, []api.Term{x}, call)
	}
	for name, call := range calls(2) {
		ask(t, name, []api.Term{x, y}, call)
		ask(t, name, []api.Term{y, x}, call)
	}
	for name, call := range calls(3) {
		ask(t, name, []api.Term{whole(1), x, y}, call)
		ask(t, name, []api.Term{whole(1), y, x}, call)
		ask(t, name, []api.Term{x, y, y}, call)
	}
}

// Terms that are not right, alone and within others, at each place: what is told is a right term, or an error of a program, and what was handed in stays as it was.
func TestP1Bent(t *testing.T) {
	for _, wrong := range bent() {
		if term.Check(wrong) == api.OK {
			t.Fatalf("%v is right", wrong)
		}
		for _, x := range []api.Term{wrong, list(wrong), tuple(wrong), list(whole(1), wrong), fun(1, wrong)} {
			for _, y := range []api.Term{whole(1), list(whole(1)), tuple(whole(1)), fun(1), list(), wrong, list(wrong, wrong)} {
				askAll(t, x, y)
			}
		}
	}
	for _, x := range great() {
		for _, y := range []api.Term{whole(1), list(whole(1)), tuple(whole(1))} {
			askAll(t, x, y)
		}
	}
}

// Terms without an end: each call ends.
func TestP1Endless(t *testing.T) {
	beside := append(endless(), whole(1), list(), tuple(whole(1)))
	for _, wrong := range endless() {
		for _, x := range []api.Term{wrong, list(wrong), tuple(wrong), list(whole(1), wrong), fun(1, wrong)} {
			try := func(name string, call tells, l ...api.Term) {
				x, e := call(l)
				plainly(t, name, x, e)
			}
			for name, call := range calls(1) {
				try(name, call, x)
			}
			for _, y := range beside {
				for name, call := range calls(2) {
					try(name, call, x, y)
					try(name, call, y, x)
				}
				for name, call := range calls(3) {
					try(name, call, whole(1), x, y)
					try(name, call, whole(1), y, x)
					try(name, call, x, y, y)
				}
			}
		}
	}
}

// A number that is none is what num says of it; to a builtin it is a bad argument, and so is a fun that is none.
func TestP902WrongNumbers(t *testing.T) {
	for _, x := range []api.Term{whole(api.MaxInt + 1), whole(math.MinInt64), float(math.NaN()), float(math.Inf(1)), {Kind: api.KInt, N: 1, S: "a"}, {Kind: api.KFloat, F: 1, N: 1}} {
		for _, sign := range []string{"+", "-", "*", "/", "div", "rem"} {
			refusesOp(t, api.ErrArith, sign, x, whole(1))
			refusesOp(t, api.ErrArith, sign, whole(1), x)
		}
		refusesOp(t, api.ErrArith, "-", x)
		for _, name := range []string{"abs", "float", "trunc", "round", "floor", "ceil", "integer_to_list", "float_to_list", "size", "hd"} {
			refusesCall(t, api.ErrBad, name, x)
		}
		for _, sign := range []string{"==", "<", "=:=", "=/="} {
			refusesOp(t, api.ErrBad, sign, x, whole(1))
		}
		refusesCall(t, api.ErrBad, "hd", list(x))
		refusesCall(t, api.ErrBad, "sort", list(x, x))
		refusesCall(t, api.ErrBad, "member", x, list(whole(1)))
		refusesCall(t, api.ErrBad, "is_function", fun(1, x), whole(1))
	}
	for _, f := range []api.Term{fun(-1), fun(api.MaxNodes + 1)} {
		refusesCall(t, api.ErrBad, "is_function", f, whole(0))
		refusesCall(t, api.ErrBad, "is_function", f, whole(f.N))
	}
}

// Any name with any terms.
func TestP1ByChance(t *testing.T) {
	r := rand.New(rand.NewSource(91))
	names := allNames()
	wrong := append(append(bent(), great()...), endless()...)
	for range 20000 {
		name := names[r.Intn(len(names))]
		var l []api.Term
		for range r.Intn(4) {
			if r.Intn(4) == 0 {
				l = append(l, wrong[r.Intn(len(wrong))])
			} else {
				l = append(l, someTerm(r, 2))
			}
		}
		x, e := bif.Call(name, l, takes)
		plainly(t, name, x, e)
		x, e = bif.Op(name, l)
		plainly(t, name, x, e)
	}
}
