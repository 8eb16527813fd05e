package num_test

import (
	"math"
	"math/big"
	"testing"

	"exitwave/api"
)

var (
	nan      = math.NaN()
	inf      = math.Inf(1)
	minus    = math.Copysign(0, -1)
	tiny     = math.SmallestNonzeroFloat64
	huge     = math.MaxFloat64
	allSigns = []string{"+", "-", "*", "/", "div", "rem"}
	allWays  = []string{"trunc", "round", "floor", "ceil"}
)

func whole(n int64) api.Term { return api.Term{Kind: api.KInt, N: n} }

func float(f float64) api.Term { return api.Term{Kind: api.KFloat, F: f} }

// alike tells whether two answers are the same, field by field, floats by their bits.
func alike(a, b api.Term) bool {
	return a.Kind == b.Kind && a.N == b.N && math.Float64bits(a.F) == math.Float64bits(b.F) && a.S == b.S && len(a.L) == len(b.L)
}

// expect holds an answer against the one that is asked for; a wrong answer beside an error fails, too (P4).
func expect(t *testing.T, call string, got api.Term, e api.Errno, want api.Term, wantE api.Errno) {
	t.Helper()
	if e != wantE || !alike(got, want) {
		t.Errorf("%s: %v, %v; want %v, %v", call, got, e, want, wantE)
	}
	if cap(got.L) != 0 {
		t.Errorf("%s: the answer has room of an argument", call)
	}
}

// isRight says W2 of numbers once more, in other words than the program's.
func isRight(a api.Term) bool {
	if a.S != "" || len(a.L) != 0 {
		return false
	}
	if a.Kind == api.KInt {
		return a.N >= -576460752303423488 && a.N <= 576460752303423487 && math.Float64bits(a.F) == 0
	}
	return a.Kind == api.KFloat && a.N == 0 && !math.IsNaN(a.F) && !math.IsInf(a.F, 0)
}

// exact tells a right number's exact value.
func exact(a api.Term) *big.Rat {
	if a.Kind == api.KInt {
		return new(big.Rat).SetInt64(a.N)
	}
	return new(big.Rat).SetFloat64(a.F)
}

// wholes, floats, numbers: right ones, the edges among them.
func wholes() []api.Term {
	out := []api.Term{}
	for _, n := range []int64{0, 1, 2, 3, 7, 10, 1 << 29, 1 << 30, 1<<30 + 1, 759250124, 759250125, 1<<32 - 1, 1 << 32, 1<<32 + 1, 1<<53 - 1, 1 << 53, 1<<53 + 1, 1<<53 + 2, 1<<53 + 3, 1<<54 + 2, 1<<54 + 6, 1<<58 - 1, 1 << 58, api.MaxInt - 63, api.MaxInt - 32, api.MaxInt - 31, api.MaxInt - 1, api.MaxInt} {
		out = append(out, whole(n))
		if n != 0 {
			out = append(out, whole(-n))
		}
	}
	return append(out, whole(api.MinInt))
}

func floats() []api.Term {
	out := []api.Term{}
	for _, f := range []float64{0, tiny, 0x1p-1022, 1e-200, 0.25, 0.49999999999999994, 0.5, 0.5000000000000001, 0.9999999999999999, 1, 1.0000000000000002, 1.5, 2, 2.5, 3, 3.5, 7, 4503599627370495.5, 4503599627370496.5, 1 << 53, 1<<53 + 2, 1 << 58, 0x1p59 - 64, 0x1p59, 0x1p59 + 128, 0x1p63, 1e100, 1e200, huge} {
		out = append(out, float(f), float(-f))
	}
	return append(out, float(minus))
}

func numbers() []api.Term { return append(wholes(), floats()...) }

// wrongs: terms that are no right numbers.
func wrongs() []api.Term {
	some := []api.Term{{}}
	return []api.Term{
		{},
		{N: 1},
		{Kind: -1, N: 1},
		{Kind: 9, N: 1},
		{Kind: api.KAtom, S: "a"},
		{Kind: api.KAtom},
		{Kind: api.KRef, N: 1},
		{Kind: api.KFun, N: 1},
		{Kind: api.KPid, N: 1},
		{Kind: api.KTuple},
		{Kind: api.KList, L: []api.Term{whole(1)}},
		whole(api.MaxInt + 1),
		whole(api.MinInt - 1),
		whole(math.MaxInt64),
		whole(math.MinInt64),
		{Kind: api.KInt, N: 1, F: 1},
		{Kind: api.KInt, N: 1, F: minus},
		{Kind: api.KInt, N: 1, F: nan},
		{Kind: api.KInt, N: 1, S: "1"},
		{Kind: api.KInt, N: 1, L: some},
		float(nan),
		float(inf),
		float(-inf),
		float(math.Float64frombits(0x7ff0000000000001)),
		float(math.Float64frombits(0xfff8000000000001)),
		{Kind: api.KFloat, F: 1, N: 1},
		{Kind: api.KFloat, F: 1, S: "1"},
		{Kind: api.KFloat, F: 1, L: some},
	}
}
