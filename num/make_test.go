package num_test

import (
	"fmt"
	"math"
	"testing"

	"exitwave/api"
	"exitwave/num"
)

func TestP101Int(t *testing.T) {
	for _, n := range []int64{0, 1, -1, 42, api.MaxInt, api.MinInt, 1<<59 - 1, -1 << 59} {
		got, e := num.Int(n)
		expect(t, fmt.Sprintf("P101 Int(%d)", n), got, e, whole(n), api.OK)
	}
	for _, n := range []int64{api.MaxInt + 1, api.MinInt - 1, 1 << 60, -1 << 60, math.MaxInt64, math.MinInt64} {
		got, e := num.Int(n)
		expect(t, fmt.Sprintf("P101 Int(%d)", n), got, e, api.Term{}, api.ErrLimit)
	}
}

func TestP101Float(t *testing.T) {
	for _, f := range []float64{0, minus, 1.5, -1.5, tiny, -tiny, huge, -huge} {
		got, e := num.Float(f)
		expect(t, fmt.Sprintf("P101 Float(%v)", f), got, e, float(f), api.OK)
	}
	for _, f := range []float64{nan, -nan, inf, -inf} {
		got, e := num.Float(f)
		expect(t, fmt.Sprintf("P101 Float(%v)", f), got, e, api.Term{}, api.ErrArith)
	}
}

func TestP101Bits(t *testing.T) {
	for _, c := range []struct {
		u uint64
		f float64
	}{{0, 0}, {1 << 63, minus}, {1, tiny}, {1<<63 | 1, -tiny}, {0x3ff8000000000000, 1.5}, {0x7fefffffffffffff, huge}, {0xffefffffffffffff, -huge}} {
		got, e := num.Bits(c.u)
		expect(t, fmt.Sprintf("P101 Bits(%x)", c.u), got, e, float(c.f), api.OK)
	}
	for _, u := range []uint64{0x7ff0000000000000, 0xfff0000000000000, 0x7ff0000000000001, 0x7ff8000000000000, 0xfff8000000000001, math.MaxUint64} {
		got, e := num.Bits(u)
		expect(t, fmt.Sprintf("P101 Bits(%x)", u), got, e, api.Term{}, api.ErrArith)
	}
}

func TestP104Whole(t *testing.T) {
	for _, c := range []struct {
		f    float64
		want [4]int64 // as allWays has them
	}{
		{0, [4]int64{}},
		{minus, [4]int64{}},
		{tiny, [4]int64{0, 0, 0, 1}},
		{-tiny, [4]int64{0, 0, -1, 0}},
		{0.49999999999999994, [4]int64{0, 0, 0, 1}},
		{-0.49999999999999994, [4]int64{0, 0, -1, 0}},
		{0.5, [4]int64{0, 1, 0, 1}},
		{-0.5, [4]int64{0, -1, -1, 0}},
		{1.5, [4]int64{1, 2, 1, 2}},
		{2.5, [4]int64{2, 3, 2, 3}},
		{-2.5, [4]int64{-2, -3, -3, -2}},
		{2.4, [4]int64{2, 2, 2, 3}},
		{-2.6, [4]int64{-2, -3, -3, -2}},
		{7, [4]int64{7, 7, 7, 7}},
		{4503599627370495.5, [4]int64{4503599627370495, 4503599627370496, 4503599627370495, 4503599627370496}},
		{4503599627370497, [4]int64{4503599627370497, 4503599627370497, 4503599627370497, 4503599627370497}},
		{0x1p59 - 64, [4]int64{1<<59 - 64, 1<<59 - 64, 1<<59 - 64, 1<<59 - 64}},
		{-0x1p59, [4]int64{api.MinInt, api.MinInt, api.MinInt, api.MinInt}},
	} {
		for k, how := range allWays {
			got, e := num.Whole(how, float(c.f))
			expect(t, fmt.Sprintf("P104 Whole(%s, %v)", how, c.f), got, e, whole(c.want[k]), api.OK)
		}
	}
}

func TestP104WholeRefuses(t *testing.T) {
	for _, how := range allWays {
		for _, f := range []float64{0x1p59, -0x1p59 - 128, 0x1p63, -0x1p63, 1e300, -1e300, huge, -huge} {
			got, e := num.Whole(how, float(f))
			expect(t, fmt.Sprintf("P104 Whole(%s, %v)", how, f), got, e, api.Term{}, api.ErrLimit)
		}
		for _, a := range wrongs() {
			got, e := num.Whole(how, a)
			expect(t, fmt.Sprintf("P104 Whole(%s, %v)", how, a), got, e, api.Term{}, api.ErrBad)
		}
		for _, a := range wholes() {
			got, e := num.Whole(how, a)
			expect(t, fmt.Sprintf("P104 Whole(%s, %v)", how, a), got, e, a, api.OK)
		}
	}
	for _, how := range []string{"", "up", "Trunc", "trunc ", "ceiling"} {
		for _, a := range []api.Term{whole(7), float(1.5), float(1e300), float(nan), {}} {
			got, e := num.Whole(how, a)
			expect(t, fmt.Sprintf("P104 Whole(%q, %v)", how, a), got, e, api.Term{}, api.ErrBad)
		}
	}
}

func TestP104Real(t *testing.T) {
	for _, a := range floats() {
		got, e := num.Real(a)
		expect(t, fmt.Sprintf("P104 Real(%v)", a), got, e, a, api.OK)
	}
	for _, a := range wholes() {
		got, e := num.Real(a)
		expect(t, fmt.Sprintf("P104 Real(%v)", a), got, e, float(num.Near(a.N)), api.OK)
	}
	for _, a := range wrongs() {
		got, e := num.Real(a)
		expect(t, fmt.Sprintf("P104 Real(%v)", a), got, e, api.Term{}, api.ErrBad)
	}
}

// An empty list is no list, and its spare room is the caller's.
func TestP2SpareRoom(t *testing.T) {
	room := make([]api.Term, 0, 4)
	a := api.Term{Kind: api.KInt, N: 7, L: room}
	b := api.Term{Kind: api.KFloat, F: 7, L: room}
	for _, c := range []struct {
		call string
		tell func() (api.Term, api.Errno)
		want api.Term
	}{
		{"Whole", func() (api.Term, api.Errno) { return num.Whole("trunc", a) }, whole(7)},
		{"Real", func() (api.Term, api.Errno) { return num.Real(b) }, float(7)},
		{"Abs", func() (api.Term, api.Errno) { return num.Abs(a) }, whole(7)},
		{"Neg", func() (api.Term, api.Errno) { return num.Neg(b) }, float(-7)},
		{"Op", func() (api.Term, api.Errno) { return num.Op("+", a, b) }, float(14)},
	} {
		got, e := c.tell()
		expect(t, "P2 "+c.call, got, e, c.want, api.OK)
	}
	if !num.Same(a, whole(7)) || num.Cmp(a, b) != 0 || num.Text(a) != "7" {
		t.Error("P2: an empty list is not taken as none")
	}
}
