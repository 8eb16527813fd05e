package num_test

import (
	"math"
	"math/big"
	"strconv"
	"testing"

	"exitwave/api"
	"exitwave/num"
)

func TestP105Near(t *testing.T) {
	for _, c := range []struct {
		n int64
		f float64
	}{
		{0, 0}, {1, 1}, {-1, -1},
		{1 << 53, 0x1p53}, {1<<53 + 1, 0x1p53}, {1<<53 + 2, 0x1p53 + 2}, {1<<53 + 3, 0x1p53 + 4},
		{-1<<53 - 1, -0x1p53}, {-1<<53 - 3, -0x1p53 - 4},
		{api.MaxInt, 0x1p59}, {api.MinInt, -0x1p59}, {api.MaxInt - 31, 0x1p59}, {api.MaxInt - 32, 0x1p59 - 64},
		{math.MaxInt64, 0x1p63}, {math.MinInt64, -0x1p63}, {math.MaxInt64 - 511, 0x1p63}, {math.MaxInt64 - 512, 0x1p63 - 1024},
	} {
		if got := num.Near(c.n); got != c.f || got == 0 && math.Signbit(got) {
			t.Errorf("P105 Near(%d): %v; want %v", c.n, got, c.f)
		}
	}
}

// Near of n and its neighbours against big.Float, which says how it rounds.
func TestP105NearRounds(t *testing.T) {
	for k := 0; k < 63; k++ {
		for d := int64(-3); d <= 3; d++ {
			for _, n := range []int64{1<<k + d, -1<<k + d, 1<<k + d<<max(0, k-53), 3<<max(0, k-2) + d<<max(0, k-54)} {
				want, _ := new(big.Float).SetInt64(n).Float64()
				if got := num.Near(n); got != want {
					t.Errorf("P105 Near(%d): %v; want %v", n, got, want)
				}
			}
		}
	}
}

func TestP105Exact(t *testing.T) {
	for _, c := range []struct {
		f    float64
		n    int64
		want int
	}{
		{0, 0, 0}, {minus, 0, 0}, {tiny, 0, 1}, {-tiny, 0, -1},
		{0.5, 0, 1}, {-0.5, 0, -1}, {0.5, 1, -1}, {-0.5, -1, 1}, {-1.5, -1, -1}, {-1.5, -2, 1}, {3, 3, 0},
		{0x1p53, 1<<53 + 1, -1}, {0x1p53, 1 << 53, 0}, {-0x1p53, -1<<53 - 1, 1}, {0x1p53 + 2, 1<<53 + 1, 1},
		{0x1p63, math.MaxInt64, 1}, {0x1p63 - 1024, math.MaxInt64, -1}, {-0x1p63, math.MinInt64, 0}, {-0x1p63, math.MinInt64 + 1, -1},
		{-0x1p63 - 2048, math.MinInt64, -1}, {huge, math.MaxInt64, 1}, {-huge, math.MinInt64, -1},
		{inf, math.MaxInt64, 1}, {-inf, math.MinInt64, -1}, {inf, 0, 1}, {-inf, 0, -1},
		{nan, 0, 2}, {nan, math.MaxInt64, 2}, {math.Float64frombits(0xfff0000000000001), -1, 2},
	} {
		if got := num.Exact(c.f, c.n); got != c.want {
			t.Errorf("P105 Exact(%v, %d): %d; want %d", c.f, c.n, got, c.want)
		}
	}
	for _, a := range floats() {
		for _, b := range wholes() {
			if got, want := num.Exact(a.F, b.N), exact(a).Cmp(exact(b)); got != want {
				t.Errorf("P105 Exact(%v, %d): %d; want %d", a.F, b.N, got, want)
			}
		}
	}
}

func TestP106Cmp(t *testing.T) {
	for _, a := range numbers() {
		for _, b := range numbers() {
			if got, want := num.Cmp(a, b), exact(a).Cmp(exact(b)); got != want {
				t.Errorf("P106 Cmp(%v, %v): %d; want %d", a, b, got, want)
			}
		}
	}
}

func TestP106Same(t *testing.T) {
	for _, a := range numbers() {
		for _, b := range numbers() {
			if got, want := num.Same(a, b), alike(a, b); got != want {
				t.Errorf("P106 Same(%v, %v): %v; want %v", a, b, got, want)
			}
		}
	}
	if num.Same(float(0), float(minus)) || !num.Same(float(minus), float(minus)) || num.Same(whole(0), float(0)) || num.Same(whole(1), float(1)) {
		t.Error("P106: the zeros, or the kinds, are not told apart")
	}
}

func TestP107(t *testing.T) {
	for _, c := range []struct {
		a    api.Term
		want string
	}{
		{whole(0), "0"}, {whole(7), "7"}, {whole(-5), "-5"}, {whole(1200), "1200"},
		{whole(api.MaxInt), "576460752303423487"}, {whole(api.MinInt), "-576460752303423488"},
		{float(0), "#0000000000000000"}, {float(minus), "#8000000000000000"}, {float(1.5), "#3ff8000000000000"},
		{float(tiny), "#0000000000000001"}, {float(-tiny), "#8000000000000001"}, {float(huge), "#7fefffffffffffff"}, {float(-huge), "#ffefffffffffffff"},
	} {
		if got := num.Text(c.a); got != c.want {
			t.Errorf("P107 Text(%v): %s; want %s", c.a, got, c.want)
		}
	}
}

// Of floats the text is their bits, so that what it tells can be made again.
func TestP107Again(t *testing.T) {
	for _, a := range floats() {
		s := num.Text(a)
		u, err := strconv.ParseUint(s[1:], 16, 64)
		got, e := num.Bits(u)
		if err != nil || e != api.OK || len(s) != 17 || s[0] != '#' || !alike(got, a) {
			t.Errorf("P107 Text(%v): %s tells %v", a, s, got)
		}
	}
}

// P1 alone holds where no right number is handed in to a face without errors (P8).
func TestP8WrongNumbers(t *testing.T) {
	all := append(wrongs(), numbers()...)
	for _, a := range wrongs() {
		num.Text(a)
		for _, b := range all {
			num.Cmp(a, b)
			num.Cmp(b, a)
			num.Same(a, b)
			num.Same(b, a)
		}
	}
}
