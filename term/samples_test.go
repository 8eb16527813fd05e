package term_test

import (
	"math"
	"math/rand"
	"strings"
	"testing"

	"exitwave/api"
)

var (
	nan   = math.NaN()
	inf   = math.Inf(1)
	minus = math.Copysign(0, -1)
)

func whole(n int64) api.Term { return api.Term{Kind: api.KInt, N: n} }

func float(f float64) api.Term { return api.Term{Kind: api.KFloat, F: f} }

func atom(s string) api.Term { return api.Term{Kind: api.KAtom, S: s} }

func ref(n int64) api.Term { return api.Term{Kind: api.KRef, N: n} }

func pid(n int64) api.Term { return api.Term{Kind: api.KPid, N: n} }

func fun(n int64, l ...api.Term) api.Term { return api.Term{Kind: api.KFun, N: n, L: l} }

func tuple(l ...api.Term) api.Term { return api.Term{Kind: api.KTuple, L: l} }

func list(l ...api.Term) api.Term { return api.Term{Kind: api.KList, L: l} }

// nested is t inside so many more of a kind.
func nested(kind, n int, t api.Term) api.Term {
	for range n {
		t = api.Term{Kind: kind, L: []api.Term{t}}
	}
	return t
}

func times(n int, t api.Term) []api.Term {
	out := make([]api.Term, n)
	for i := range out {
		out[i] = t
	}
	return out
}

// alike tells whether two answers are the same, field by field, floats by their bits; no list and an empty one are the same.
func alike(a, b api.Term) bool { return alikeBare(a, b) && alikeAll(a.L, b.L) }

// alikeBare asks nothing of their elements.
func alikeBare(a, b api.Term) bool {
	return a.Kind == b.Kind && a.N == b.N && math.Float64bits(a.F) == math.Float64bits(b.F) && a.S == b.S && len(a.L) == len(b.L)
}

func alikeAll(a, b []api.Term) bool {
	if len(a) != len(b) {
		return false
	}
	for i := range a {
		if !alike(a[i], b[i]) {
			return false
		}
	}
	return true
}

// roomy is t once more, each list of it with spare room behind; marks stand in the room.
func roomy(t api.Term) api.Term {
	if t.L == nil {
		return t
	}
	l := make([]api.Term, 0, len(t.L)+2)
	for _, x := range t.L {
		l = append(l, roomy(x))
	}
	t.L = append(l, whole(77), atom("room"))[:len(l)]
	return t
}

// alikeRoom is alike, and what stands in the spare room of their lists is so, too.
func alikeRoom(a, b api.Term) bool {
	x, y := a.L[:cap(a.L)], b.L[:cap(b.L)]
	if !alikeBare(a, b) || len(x) != len(y) {
		return false
	}
	for i := range x {
		if !alikeRoom(x[i], y[i]) {
			return false
		}
	}
	return true
}

// listsOf tells l and all lists of its terms, each with its spare room, behind out.
func listsOf(out [][]api.Term, l []api.Term) [][]api.Term {
	if cap(l) > 0 {
		out = append(out, l[:cap(l)])
	}
	for _, x := range l {
		out = listsOf(out, x.L)
	}
	return out
}

// ownMemory fails, if a list of the answer shares memory with another one of it, or with one of what was handed in; the answer is written over.
func ownMemory(t *testing.T, call string, answer []api.Term, given ...api.Term) {
	t.Helper()
	all := listsOf(nil, answer)
	var before []api.Term
	for _, x := range given {
		before = append(before, roomCopy(x))
	}
	for i, l := range all {
		for k := range l {
			l[k] = api.Term{Kind: -5, N: int64(i), F: float64(k)}
		}
	}
	for i, l := range all {
		for k := range l {
			if l[k].Kind != -5 || l[k].N != int64(i) || l[k].F != float64(k) {
				t.Errorf("P2 %s: two lists of the answer share memory", call)
				return
			}
		}
	}
	for i, x := range given {
		if !alikeRoom(x, before[i]) {
			t.Errorf("P2 %s: the answer shares memory with what was handed in", call)
		}
	}
}

// roomCopy is t once more, with what stands in the spare room of its lists.
func roomCopy(t api.Term) api.Term {
	if t.L == nil {
		return t
	}
	n, l := len(t.L), t.L[:cap(t.L)]
	own := make([]api.Term, len(l))
	for i, x := range l {
		own[i] = roomCopy(x)
	}
	t.L = own[:n]
	return t
}

// rights: right terms, with the edges among them; no two are identical.
func rights() []api.Term {
	return []api.Term{
		whole(0), whole(1), whole(-1), whole(2), whole(1 << 53), whole(1<<53 + 1), whole(api.MaxInt), whole(api.MinInt),
		float(0), float(minus), float(1), float(-1), float(1.5), float(1 << 53), float(0x1p59), float(-0x1p59), float(math.MaxFloat64), float(math.SmallestNonzeroFloat64),
		atom(""), atom("a"), atom("aa"), atom("aB_@9"), atom("b"), atom("A"), atom("end"), atom("ends"), atom("'"), atom("\\"), atom("\x00"), atom("\x7f"), atom("\xff"), atom("é"), atom("a b"), atom("0"), atom("_a"), atom("#Pid0"), atom(strings.Repeat("\xff", api.MaxAtom)),
		ref(0), ref(1), ref(1 << 40),
		fun(0), fun(1), fun(0, whole(0)), fun(0, float(0)), fun(0, whole(0), whole(0)), fun(0, whole(1)), fun(api.MaxNodes), fun(2, list(), tuple()),
		pid(0), pid(1), pid(1 << 40),
		tuple(), tuple(atom("a")), tuple(whole(1)), tuple(float(1)), tuple(tuple()), tuple(list()), tuple(whole(1), whole(2)), tuple(whole(1), float(2)), tuple(whole(0), float(minus)), tuple(whole(0), float(0)),
		list(), list(whole(1)), list(float(1)), list(whole(1), whole(2)), list(whole(2)), list(list()), list(list(), list()), list(tuple()), list(atom("a"), atom("b")), list(fun(3, list(ref(1), pid(2)))),
		nested(api.KList, api.MaxDepth-1, whole(1)), nested(api.KTuple, api.MaxDepth-1, float(1)), nested(api.KFun, api.MaxDepth-1, atom("a")),
		list(times(1<<15, whole(1))...), tuple(times(1<<16-1, whole(1))...), fun(1, times(1<<16-2, whole(1))...),
	}
}

// wrongs: terms that are not right, within the limits of depth and words.
func wrongs() []api.Term {
	one := []api.Term{whole(1)}
	out := []api.Term{
		{}, {N: 1}, {Kind: -1}, {Kind: 9}, {Kind: 9, L: one}, {Kind: math.MaxInt, S: "a"}, {Kind: math.MinInt},
		whole(api.MaxInt + 1), whole(api.MinInt - 1), whole(math.MaxInt64), whole(math.MinInt64),
		float(nan), float(inf), float(-inf), float(math.Float64frombits(0x7ff0000000000001)),
		atom(strings.Repeat("a", api.MaxAtom+1)), atom(strings.Repeat("é", api.MaxAtom/2) + "a"),
		ref(-1), ref(1<<40 + 1), pid(-1), pid(1<<40 + 1), fun(-1), fun(api.MaxNodes + 1), fun(math.MinInt64),
	}
	for _, t := range []api.Term{whole(1), float(1), atom("a"), ref(1), pid(1), fun(1, one...), tuple(one...), list(one...), tuple(), list()} {
		out = append(out, withWrongField(t)...)
	}
	for _, t := range out {
		out = append(out, list(whole(1), t), tuple(tuple(t), whole(1)), fun(0, t))
	}
	return out
}

// withWrongField tells t with each field that its kind does not have.
func withWrongField(t api.Term) []api.Term {
	var out []api.Term
	put := func(has bool, change func(*api.Term)) {
		if !has {
			x := t
			change(&x)
			out = append(out, x)
		}
	}
	hasN := t.Kind == api.KInt || t.Kind == api.KRef || t.Kind == api.KPid || t.Kind == api.KFun
	hasL := t.Kind == api.KFun || t.Kind == api.KTuple || t.Kind == api.KList
	put(hasN, func(x *api.Term) { x.N = 1 })
	put(hasN, func(x *api.Term) { x.N = -1 })
	put(t.Kind == api.KFloat, func(x *api.Term) { x.F = 1 })
	put(t.Kind == api.KFloat, func(x *api.Term) { x.F = nan })
	put(t.Kind == api.KFloat, func(x *api.Term) { x.F = minus })
	put(t.Kind == api.KAtom, func(x *api.Term) { x.S = "a" })
	put(t.Kind == api.KAtom, func(x *api.Term) { x.S = "\x00" })
	put(hasL, func(x *api.Term) { x.L = []api.Term{whole(1)} })
	put(hasL, func(x *api.Term) { x.L = []api.Term{{}} })
	return out
}

// beyond: terms beyond the limits of depth or words, right ones but for that, and others.
func beyond() []api.Term {
	out := []api.Term{
		list(times(1<<15+1, whole(1))...), list(times(1<<15, whole(1))...), tuple(times(1<<16, whole(1))...), fun(1, times(1<<16-1, whole(1))...),
		list(times(1<<14+1, float(1))...), list(times(1<<14+1, ref(1))...), tuple(times(1<<15, tuple())...),
		tuple(times(1<<16, api.Term{})...), {Kind: 9, L: times(1<<16, whole(1))}, {Kind: -1, L: times(1<<15, api.Term{})},
		{Kind: api.KInt, L: times(1<<15+1, float(1))}, {Kind: api.KAtom, L: times(1<<15+1, ref(1))}, {Kind: api.KPid, L: times(1<<16+1, tuple())},
		{Kind: api.KFloat, L: times(1<<15, float(1))}, {Kind: api.KRef, L: times(1<<15, ref(1))},
	}
	out[1].L[5] = list(whole(1))
	for kind := -1; kind <= 9; kind++ {
		out = append(out, nested(kind, api.MaxDepth, whole(1)), nested(kind, api.MaxDepth, api.Term{}), nested(kind, 40000, whole(1)))
	}
	return append(out, list(float(nan), nested(api.KList, api.MaxDepth-1, whole(1))), tuple(append(times(1<<16-1, api.Term{}), whole(1))...))
}

// somehow makes a term by chance, right or not.
func somehow(r *rand.Rand, deep int, right bool) api.Term {
	kind := 1 + r.Intn(8)
	if !right && r.Intn(8) == 0 {
		kind = r.Intn(12) - 2
	}
	t := api.Term{Kind: kind}
	switch kind {
	case api.KInt:
		t.N = []int64{0, 1, -1, 2, 1 << 53, 1<<53 + 1, api.MaxInt, api.MinInt}[r.Intn(8)]
	case api.KFloat:
		t.F = []float64{0, minus, 1, -1, 1.5, 1 << 53, 0x1p59, -0x1p59}[r.Intn(8)]
	case api.KAtom:
		t.S = []string{"", "a", "b", "ab", "end", "A", "\xff", "\\'"}[r.Intn(8)]
	case api.KRef, api.KPid, api.KFun:
		t.N = int64(r.Intn(3))
	}
	if deep > 0 && (kind >= api.KFun && kind != api.KPid || !right && r.Intn(8) == 0) {
		for range r.Intn(4) {
			t.L = append(t.L, somehow(r, deep-1, right))
		}
	}
	if !right && r.Intn(8) == 0 {
		t.N, t.S = int64(r.Intn(3)), []string{"", "a"}[r.Intn(2)]
	}
	return t
}
