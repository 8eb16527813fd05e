package num_test

import (
	"fmt"
	"math"
	"math/big"
	"testing"

	"exitwave/api"
	"exitwave/num"
)

func TestP102Table(t *testing.T) {
	for _, c := range []struct {
		sign string
		a, b api.Term
		want api.Term
		e    api.Errno
	}{
		{"+", whole(2), whole(3), whole(5), api.OK},
		{"+", whole(api.MaxInt), whole(api.MinInt), whole(-1), api.OK},
		{"+", whole(api.MaxInt), whole(1), api.Term{}, api.ErrLimit},
		{"+", whole(api.MinInt), whole(-1), api.Term{}, api.ErrLimit},
		{"-", whole(2), whole(3), whole(-1), api.OK},
		{"-", whole(api.MinInt), whole(1), api.Term{}, api.ErrLimit},
		{"-", whole(0), whole(api.MinInt), api.Term{}, api.ErrLimit},
		{"-", whole(-1), whole(api.MinInt), whole(api.MaxInt), api.OK},
		{"*", whole(-4), whole(3), whole(-12), api.OK},
		{"*", whole(1 << 30), whole(1 << 29), api.Term{}, api.ErrLimit},
		{"*", whole(-1 << 30), whole(1 << 29), whole(api.MinInt), api.OK},
		{"*", whole(api.MinInt), whole(-1), api.Term{}, api.ErrLimit},
		{"*", whole(1 << 32), whole(1 << 32), api.Term{}, api.ErrLimit},
		{"*", whole(1<<32 - 1), whole(1<<32 + 1), api.Term{}, api.ErrLimit}, // 64 bits that are all 1
		{"*", whole(1 << 33), whole(1 << 33), api.Term{}, api.ErrLimit},
		{"*", whole(0), whole(api.MinInt), whole(0), api.OK},
		{"+", whole(1), float(0.5), float(1.5), api.OK},
		{"+", float(1 << 53), whole(1<<53 + 1), float(1 << 54), api.OK},
		{"+", float(0), float(minus), float(0), api.OK},
		{"+", float(minus), float(minus), float(minus), api.OK},
		{"+", whole(0), float(minus), float(0), api.OK},
		{"-", float(0), float(0), float(0), api.OK},
		{"-", float(minus), whole(0), float(minus), api.OK},
		{"-", float(0), float(minus), float(0), api.OK},
		{"*", whole(0), float(-1.5), float(minus), api.OK},
		{"*", float(tiny), float(0.5), float(0), api.OK},
		{"+", float(huge), float(huge), api.Term{}, api.ErrArith},
		{"-", float(-huge), float(huge), api.Term{}, api.ErrArith},
		{"*", float(1e200), float(1e200), api.Term{}, api.ErrArith},
		{"*", float(1e200), float(-1e200), api.Term{}, api.ErrArith},
		{"/", whole(1), whole(2), float(0.5), api.OK},
		{"/", whole(6), whole(3), float(2), api.OK},
		{"/", whole(0), whole(-3), float(minus), api.OK},
		{"/", float(minus), whole(3), float(minus), api.OK},
		{"/", whole(api.MaxInt), whole(api.MaxInt - 1), float(1), api.OK},
		{"/", whole(1), whole(0), api.Term{}, api.ErrArith},
		{"/", whole(1), float(0), api.Term{}, api.ErrArith},
		{"/", whole(1), float(minus), api.Term{}, api.ErrArith},
		{"/", whole(0), whole(0), api.Term{}, api.ErrArith},
		{"/", float(huge), float(0.5), api.Term{}, api.ErrArith},
		{"/", whole(1), float(tiny), api.Term{}, api.ErrArith},
		{"div", whole(7), whole(2), whole(3), api.OK},
		{"div", whole(-7), whole(2), whole(-3), api.OK},
		{"div", whole(7), whole(-2), whole(-3), api.OK},
		{"div", whole(-7), whole(-2), whole(3), api.OK},
		{"div", whole(api.MinInt), whole(-1), api.Term{}, api.ErrLimit},
		{"div", whole(api.MinInt), whole(1), whole(api.MinInt), api.OK},
		{"rem", whole(7), whole(-2), whole(1), api.OK},
		{"rem", whole(-7), whole(2), whole(-1), api.OK},
		{"rem", whole(-7), whole(-2), whole(-1), api.OK},
		{"rem", whole(api.MinInt), whole(-1), whole(0), api.OK},
	} {
		got, e := num.Op(c.sign, c.a, c.b)
		expect(t, fmt.Sprintf("P102 %v %s %v", c.a, c.sign, c.b), got, e, c.want, c.e)
	}
	for _, sign := range []string{"div", "rem"} {
		for _, c := range [][2]api.Term{{whole(1), whole(0)}, {whole(0), whole(0)}, {float(1), whole(1)}, {whole(1), float(1)}, {float(1), float(1)}, {float(1), whole(0)}} {
			got, e := num.Op(sign, c[0], c[1])
			expect(t, fmt.Sprintf("P102 %v %s %v", c[0], sign, c[1]), got, e, api.Term{}, api.ErrArith)
		}
	}
}

// A sign that is none is told ahead of numbers that are none (P6).
func TestP102Refuses(t *testing.T) {
	for _, sign := range []string{"", "^", "++", "+ ", "Div", "mod", "div\x00", "remm"} {
		for _, a := range []api.Term{whole(1), float(nan), {}} {
			got, e := num.Op(sign, a, whole(0))
			expect(t, fmt.Sprintf("P102 %v %q 0", a, sign), got, e, api.Term{}, api.ErrBad)
		}
	}
	for _, sign := range allSigns {
		for _, a := range wrongs() {
			for _, b := range append(wrongs(), whole(1), float(1)) {
				got, e := num.Op(sign, a, b)
				expect(t, fmt.Sprintf("P102 %v %s %v", a, sign, b), got, e, api.Term{}, api.ErrArith)
				got, e = num.Op(sign, b, a)
				expect(t, fmt.Sprintf("P102 %v %s %v", b, sign, a), got, e, api.Term{}, api.ErrArith)
			}
		}
	}
}

// wholeOracle reckons with whole numbers of any size.
func wholeOracle(sign string, a, b int64) (api.Term, api.Errno) {
	x, y, z := big.NewInt(a), big.NewInt(b), new(big.Int)
	if b == 0 && (sign == "div" || sign == "rem") {
		return api.Term{}, api.ErrArith
	}
	switch sign {
	case "+":
		z.Add(x, y)
	case "-":
		z.Sub(x, y)
	case "*":
		z.Mul(x, y)
	case "div":
		z.Quo(x, y)
	case "rem":
		z.Rem(x, y)
	}
	if z.Cmp(big.NewInt(api.MinInt)) < 0 || z.Cmp(big.NewInt(api.MaxInt)) > 0 {
		return api.Term{}, api.ErrLimit
	}
	return whole(z.Int64()), api.OK
}

func TestP102Wholes(t *testing.T) {
	for _, sign := range []string{"+", "-", "*", "div", "rem"} {
		for _, a := range wholes() {
			for _, b := range wholes() {
				want, wantE := wholeOracle(sign, a.N, b.N)
				got, e := num.Op(sign, a, b)
				expect(t, fmt.Sprintf("P102 %d %s %d", a.N, sign, b.N), got, e, want, wantE)
			}
		}
	}
}

// floatOracle reckons the exact outcome of two floats and rounds it once; of an outcome 0 the sign is asked elsewhere.
func floatOracle(sign string, a, b float64) (api.Term, api.Errno) {
	x, y, z := new(big.Rat).SetFloat64(a), new(big.Rat).SetFloat64(b), new(big.Rat)
	if sign == "/" && b == 0 {
		return api.Term{}, api.ErrArith
	}
	switch sign {
	case "+":
		z.Add(x, y)
	case "-":
		z.Sub(x, y)
	case "*":
		z.Mul(x, y)
	case "/":
		z.Quo(x, y)
	}
	f, _ := z.Float64()
	if math.IsInf(f, 0) {
		return api.Term{}, api.ErrArith
	}
	return float(f), api.OK
}

func TestP102Floats(t *testing.T) {
	for _, sign := range []string{"+", "-", "*", "/"} {
		for _, a := range numbers() {
			for _, b := range numbers() {
				if sign != "/" && a.Kind == api.KInt && b.Kind == api.KInt {
					continue
				}
				x, _ := num.Real(a)
				y, _ := num.Real(b)
				want, wantE := floatOracle(sign, x.F, y.F)
				got, e := num.Op(sign, a, b)
				if e == api.OK && got.F == 0 && want.F == 0 {
					want.F = got.F
				}
				expect(t, fmt.Sprintf("P102 %v %s %v", a, sign, b), got, e, want, wantE)
			}
		}
	}
}

func TestP103(t *testing.T) {
	for _, c := range []struct {
		a, neg, abs api.Term
	}{
		{whole(0), whole(0), whole(0)},
		{whole(5), whole(-5), whole(5)},
		{whole(-5), whole(5), whole(5)},
		{whole(api.MaxInt), whole(-api.MaxInt), whole(api.MaxInt)},
		{whole(-api.MaxInt), whole(api.MaxInt), whole(api.MaxInt)},
		{float(0), float(minus), float(0)},
		{float(minus), float(0), float(0)},
		{float(1.5), float(-1.5), float(1.5)},
		{float(-1.5), float(1.5), float(1.5)},
		{float(-tiny), float(tiny), float(tiny)},
		{float(huge), float(-huge), float(huge)},
	} {
		got, e := num.Neg(c.a)
		expect(t, fmt.Sprintf("P103 Neg(%v)", c.a), got, e, c.neg, api.OK)
		got, e = num.Abs(c.a)
		expect(t, fmt.Sprintf("P103 Abs(%v)", c.a), got, e, c.abs, api.OK)
	}
	got, e := num.Neg(whole(api.MinInt))
	expect(t, "P103 Neg(MinInt)", got, e, api.Term{}, api.ErrLimit)
	got, e = num.Abs(whole(api.MinInt))
	expect(t, "P103 Abs(MinInt)", got, e, api.Term{}, api.ErrLimit)
	for _, a := range wrongs() {
		got, e := num.Neg(a)
		expect(t, fmt.Sprintf("P103 Neg(%v)", a), got, e, api.Term{}, api.ErrArith)
		got, e = num.Abs(a)
		expect(t, fmt.Sprintf("P103 Abs(%v)", a), got, e, api.Term{}, api.ErrArith)
	}
}
