package bif_test

import (
	"fmt"
	"math"
	"math/rand"
	"slices"
	"strings"

	"exitwave/api"
	"exitwave/term"
)

var minus = math.Copysign(0, -1)

func whole(n int64) api.Term { return api.Term{Kind: api.KInt, N: n} }

func float(f float64) api.Term { return api.Term{Kind: api.KFloat, F: f} }

func atom(s string) api.Term { return api.Term{Kind: api.KAtom, S: s} }

func ref(n int64) api.Term { return api.Term{Kind: api.KRef, N: n} }

func pid(n int64) api.Term { return api.Term{Kind: api.KPid, N: n} }

func fun(n int64, l ...api.Term) api.Term { return api.Term{Kind: api.KFun, N: n, L: l} }

func tuple(l ...api.Term) api.Term { return api.Term{Kind: api.KTuple, L: l} }

func list(l ...api.Term) api.Term { return api.Term{Kind: api.KList, L: l} }

// text is the list of a text's bytes.
func text(s string) api.Term {
	var l []api.Term
	for i := range len(s) {
		l = append(l, whole(int64(s[i])))
	}
	return list(l...)
}

func truth(is bool) api.Term { return atom(fmt.Sprint(is)) }

// nested is x inside so many more of a kind.
func nested(kind, n int, x api.Term) api.Term {
	for range n {
		x = api.Term{Kind: kind, L: []api.Term{x}}
	}
	return x
}

func times(n int, x api.Term) []api.Term {
	out := make([]api.Term, n)
	for i := range out {
		out[i] = x
	}
	return out
}

// kinds: right terms, some of each kind, with the edges among them; no two are identical.
func kinds() []api.Term {
	return []api.Term{
		whole(0), whole(1), whole(-1), whole(2), whole(3), whole(97), whole(255), whole(256), whole(api.MaxInt), whole(-api.MaxInt), whole(api.MinInt),
		float(0), float(minus), float(1), float(-1), float(2), float(97), float(1.5), float(-1.5), float(0x1p59), float(-0x1p59), float(math.MaxFloat64),
		atom(""), atom("a"), atom("b"), atom("true"), atom("false"), atom("True"), atom("-"), atom("1"), atom(strings.Repeat("\xff", api.MaxAtom)),
		ref(0), ref(1), ref(1 << 40), pid(0), pid(1), pid(1 << 40), fun(0), fun(1), fun(2), fun(api.MaxNodes), fun(1, whole(1)), fun(1, float(1)),
		tuple(), tuple(whole(1)), tuple(float(1)), tuple(atom("a"), whole(1)), tuple(whole(1), whole(2), whole(1)), tuple(tuple()), tuple(list()), tuple(atom("true")),
		list(), list(whole(1)), list(float(1)), list(float(minus)), list(whole(97)), list(whole(97), whole(98)), list(float(97), whole(98)), list(atom("a")), list(list()), list(whole(1), whole(2)), list(whole(1), whole(2), whole(3)),
		list(whole(3), float(1), whole(1), float(3)), list(tuple(), whole(1), atom("a"), list()), list(atom("a"), atom("b"), atom("a")), list(whole(256)), list(whole(-1)), list(whole(255), whole(0)), list(atom("true")),
		text("7"), text("-7"), text("-"), text("007"), text("3ff8000000000000"), text("7ff0000000000000"), text("true"),
	}
}

// numbers: those at the edges.
func numbers() []api.Term {
	var out []api.Term
	for _, n := range []int64{0, 1, 2, 3, 7, 97, 1 << 29, 1 << 30, 759250124, 759250125, 1<<53 - 1, 1 << 53, 1<<53 + 1, 1<<58 + 1, api.MaxInt - 1, api.MaxInt} {
		out = append(out, whole(n), whole(-n))
	}
	out = append(out, whole(api.MinInt))
	for _, f := range []float64{0, 1, 0.5, 1.5, 2.5, 0.49999999999999994, 97, 1e15, 0x1p53, 0x1p58, 0x1p59, math.Nextafter(0x1p59, 0), math.Nextafter(0x1p59, math.Inf(1)), 1e154, 1e200, 1e300, math.MaxFloat64, math.SmallestNonzeroFloat64, 0x1p-1022} {
		out = append(out, float(f), float(math.Copysign(f, -1)))
	}
	return out
}

// someTerm makes a small right term by chance, out of few kinds of leaves, so that some are equal, and some identical.
func someTerm(r *rand.Rand, deep int) api.Term {
	if deep == 0 || r.Intn(3) == 0 {
		l := kinds()
		return l[r.Intn(len(l))]
	}
	if r.Intn(3) == 0 {
		return []api.Term{whole(1), float(1), float(0), float(minus), whole(0), atom("a")}[r.Intn(6)]
	}
	x := api.Term{Kind: []int{api.KTuple, api.KList, api.KList}[r.Intn(3)]}
	for range r.Intn(5) {
		x.L = append(x.L, someTerm(r, deep-1))
	}
	return x
}

// said is what a term looks like, the middle left out if it is long.
func said(x api.Term) string {
	s, e := term.Text(x)
	if e != api.OK {
		s = "(" + e.Error() + ")"
	}
	if len(s) > 300 {
		s = s[:150] + " .. " + s[len(s)-150:]
	}
	return strings.ToValidUTF8(s, "?")
}

func saidAll(l []api.Term) string {
	var out []string
	for _, x := range l {
		out = append(out, said(x))
	}
	return "(" + strings.Join(out, ", ") + ")"
}

// alike tells whether two answers are the same, field by field, floats by their bits; no list and an empty one are the same.
func alike(a, b api.Term) bool {
	return a.Kind == b.Kind && a.N == b.N && math.Float64bits(a.F) == math.Float64bits(b.F) && a.S == b.S && slices.EqualFunc(a.L, b.L, alike)
}
