package bif_test

import (
	"math"
	"math/rand"
	"strings"
	"testing"

	"exitwave/api"
)

// agreesOp asks an operator, and the oracle.
func agreesOp(t *testing.T, sign string, l ...api.Term) {
	t.Helper()
	want, wantE := operator(sign, l)
	got, e := askOp(t, sign, l...)
	expectSame(t, "P901", sign, l, got, e, want, wantE)
}

// Each operator with each kind of term in each place.
func TestP901Kinds(t *testing.T) {
	for _, a := range kinds() {
		for _, sign := range strings.Fields(signsOfOne) {
			agreesOp(t, sign, a)
		}
		for _, b := range kinds() {
			for _, sign := range strings.Fields(signsOfTwo) {
				agreesOp(t, sign, a, b)
			}
		}
	}
}

func TestP901Numbers(t *testing.T) {
	for _, a := range numbers() {
		agreesOp(t, "-", a)
		for _, b := range numbers() {
			for _, sign := range strings.Fields(signsOfTwo) {
				agreesOp(t, sign, a, b)
			}
		}
	}
}

func TestP901ByChance(t *testing.T) {
	r := rand.New(rand.NewSource(901))
	signs := strings.Fields(signsOfTwo)
	for range 20000 {
		a, b := someTerm(r, 2), someTerm(r, 2)
		if r.Intn(3) == 0 { // two that are nearly the same
			l := []api.Term{a, b}
			a, b = list(l...), list(l[0], someTerm(r, 1))
		}
		agreesOp(t, signs[r.Intn(len(signs))], a, b)
	}
}

// Numbers at the ends of the whole ones, floats whose result is not finite, the two zeros.
func TestP901Arithmetic(t *testing.T) {
	expectOp(t, whole(3), "+", whole(1), whole(2))
	expectOp(t, float(1.5), "+", whole(1), float(0.5))
	expectOp(t, whole(-1), "-", whole(1), whole(2))
	expectOp(t, whole(6), "*", whole(3), whole(2))
	expectOp(t, float(0.5), "/", whole(1), whole(2))
	expectOp(t, float(2), "/", whole(4), whole(2))
	expectOp(t, whole(-3), "div", whole(-7), whole(2))
	expectOp(t, whole(-1), "rem", whole(-7), whole(2))
	expectOp(t, whole(api.MaxInt), "+", whole(api.MaxInt), whole(0))
	refusesOp(t, api.ErrLimit, "+", whole(api.MaxInt), whole(1))
	expectOp(t, whole(api.MinInt), "-", whole(-api.MaxInt), whole(1))
	refusesOp(t, api.ErrLimit, "-", whole(api.MinInt), whole(1))
	refusesOp(t, api.ErrLimit, "*", whole(1<<30), whole(1<<29))
	expectOp(t, whole(api.MinInt), "*", whole(1<<30), whole(-1<<29))
	refusesOp(t, api.ErrLimit, "div", whole(api.MinInt), whole(-1))
	expectOp(t, whole(0), "rem", whole(api.MinInt), whole(-1))
	refusesOp(t, api.ErrArith, "*", float(1e200), float(1e200))
	refusesOp(t, api.ErrArith, "+", float(math.MaxFloat64), float(math.MaxFloat64))
	refusesOp(t, api.ErrArith, "/", float(1e300), float(1e-300))
	for _, zero := range []api.Term{whole(0), float(0), float(minus)} {
		refusesOp(t, api.ErrArith, "/", whole(1), zero)
		refusesOp(t, api.ErrArith, "div", whole(1), zero)
		refusesOp(t, api.ErrArith, "rem", whole(1), zero)
	}
	expectOp(t, float(minus), "*", whole(0), float(-1.5))
	expectOp(t, float(0), "-", float(0), float(0))
	expectOp(t, float(minus), "+", float(minus), float(minus))
	refusesOp(t, api.ErrArith, "div", float(1), whole(1))
	refusesOp(t, api.ErrArith, "rem", whole(1), float(1))
	refusesOp(t, api.ErrArith, "+", atom("a"), whole(1))
	refusesOp(t, api.ErrArith, "+", whole(1), list())
	expectOp(t, whole(api.MinInt+1), "-", whole(api.MaxInt))
	refusesOp(t, api.ErrLimit, "-", whole(api.MinInt))
	expectOp(t, float(minus), "-", float(0))
	expectOp(t, float(0), "-", float(minus))
	refusesOp(t, api.ErrArith, "-", atom("a"))
	refusesOp(t, api.ErrArith, "-", text("1"))
}

func TestP901Order(t *testing.T) {
	yes, no := atom("true"), atom("false")
	for _, c := range []struct {
		a, b                                      api.Term
		eq, ne, le, lt, ge, gt, identical, differ api.Term
	}{
		{whole(1), whole(1), yes, no, yes, no, yes, no, yes, no},
		{whole(1), float(1), yes, no, yes, no, yes, no, no, yes},
		{float(0), float(minus), yes, no, yes, no, yes, no, no, yes},
		{list(whole(1)), list(float(1)), yes, no, yes, no, yes, no, no, yes},
		{tuple(whole(0), float(0)), tuple(whole(0), float(0)), yes, no, yes, no, yes, no, yes, no},
		{whole(1), whole(2), no, yes, yes, yes, no, no, no, yes},
		{whole(2), float(1.5), no, yes, no, no, yes, yes, no, yes},
		{whole(api.MaxInt), float(0x1p59), no, yes, yes, yes, no, no, no, yes},
		{whole(api.MinInt), float(-0x1p59), yes, no, yes, no, yes, no, no, yes},
		{whole(1<<53 + 1), float(0x1p53), no, yes, no, no, yes, yes, no, yes},
		{atom("a"), whole(1), no, yes, no, no, yes, yes, no, yes},
		{atom("a"), list(), no, yes, yes, yes, no, no, no, yes},
		{tuple(), list(), no, yes, yes, yes, no, no, no, yes},
		{tuple(whole(9)), tuple(whole(1), whole(1)), no, yes, yes, yes, no, no, no, yes},
		{list(whole(9)), list(whole(1), whole(1)), no, yes, no, no, yes, yes, no, yes},
		{list(), list(whole(1)), no, yes, yes, yes, no, no, no, yes},
	} {
		expectOp(t, c.eq, "==", c.a, c.b)
		expectOp(t, c.ne, "/=", c.a, c.b)
		expectOp(t, c.le, "=<", c.a, c.b)
		expectOp(t, c.lt, "<", c.a, c.b)
		expectOp(t, c.ge, ">=", c.a, c.b)
		expectOp(t, c.gt, ">", c.a, c.b)
		expectOp(t, c.identical, "=:=", c.a, c.b)
		expectOp(t, c.differ, "=/=", c.a, c.b)
	}
}

// Lists behind one another, up to the words that a term may have.
func TestP901Append(t *testing.T) {
	expectOp(t, list(), "++", list(), list())
	expectOp(t, list(whole(1)), "++", list(), list(whole(1)))
	expectOp(t, list(whole(1)), "++", list(whole(1)), list())
	expectOp(t, list(whole(1), whole(2), list(), whole(1)), "++", list(whole(1), whole(2)), list(list(), whole(1)))
	for _, x := range []api.Term{whole(1), atom("a"), tuple(), tuple(whole(1)), fun(1), float(0)} {
		refusesOp(t, api.ErrBad, "++", x, list(whole(1)))
		refusesOp(t, api.ErrBad, "++", list(whole(1)), x)
		refusesOp(t, api.ErrBad, "++", x, x)
	}
	const most = api.MaxWords / 2
	full := times(most, whole(1))
	for _, n := range []int{0, 1, most / 2, most - 1, most} {
		a, b := list(full[:n]...), list(full[n:]...)
		expectOp(t, list(full...), "++", a, b)
		refusesOp(t, api.ErrLimit, "++", a, list(append([]api.Term{whole(1)}, b.L...)...))
	}
	expectOp(t, list(append(times(most-2, whole(1)), float(1))...), "++", list(times(most-2, whole(1))...), list(float(1)))
	refusesOp(t, api.ErrLimit, "++", list(times(most-1, whole(1))...), list(float(1)))
	refusesOp(t, api.ErrLimit, "++", list(float(1)), list(times(most-1, whole(1))...))
	refusesOp(t, api.ErrLimit, "++", list(full...), list(full...))
	refusesOp(t, api.ErrBad, "++", list(full...), whole(1)) // ahead of the limit
	deep := nested(api.KList, api.MaxDepth-1, whole(1))
	expectOp(t, list(deep.L[0], deep.L[0]), "++", deep, deep)
}

func TestP901Not(t *testing.T) {
	expectOp(t, atom("false"), "not", atom("true"))
	expectOp(t, atom("true"), "not", atom("false"))
	for _, x := range []api.Term{whole(0), whole(1), atom(""), atom("True"), atom("truee"), text("true"), list(atom("true")), tuple(atom("true"))} {
		refusesOp(t, api.ErrBad, "not", x)
	}
}
