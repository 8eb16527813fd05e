// Package num: whole numbers of 60 bits, floats. See doc/01-num.md.
package num

import (
	"cmp"
	"math"
	"strconv"
	"strings"

	"exitwave/api"
)

// Int, Float, Bits make numbers.
func Int(n int64) (api.Term, api.Errno) {
	if !isWhole(n) {
		return api.Term{}, api.ErrLimit
	}
	return api.Term{Kind: api.KInt, N: n}, api.OK
}

func Float(f float64) (api.Term, api.Errno) { return Bits(math.Float64bits(f)) }

func Bits(u uint64) (api.Term, api.Errno) {
	if !isFinite(u) {
		return api.Term{}, api.ErrArith
	}
	return api.Term{Kind: api.KFloat, F: math.Float64frombits(u)}, api.OK
}

// Op, Neg, Abs reckon; Whole, Real make one kind of the other.
func Op(sign string, a, b api.Term) (api.Term, api.Errno) {
	if !isSign(sign) {
		return api.Term{}, api.ErrBad
	}
	x, rightX := valueOf(a)
	y, rightY := valueOf(b)
	if !rightX || !rightY {
		return api.Term{}, api.ErrArith
	}
	wholes := x.kind == api.KInt && y.kind == api.KInt
	switch sign {
	case "div", "rem":
		if !wholes {
			return api.Term{}, api.ErrArith
		}
		return divide(sign, x.n, y.n)
	case "/":
		return reckonFloats(sign, x.real(), y.real())
	}
	if wholes {
		return reckonWholes(sign, x.n, y.n)
	}
	return reckonFloats(sign, x.real(), y.real())
}

func Neg(a api.Term) (api.Term, api.Errno) {
	x, right := valueOf(a)
	if !right {
		return api.Term{}, api.ErrArith
	}
	if x.kind == api.KInt {
		return Int(-x.n)
	}
	return Bits(x.bits ^ signBit)
}

func Abs(a api.Term) (api.Term, api.Errno) {
	x, right := valueOf(a)
	if !right {
		return api.Term{}, api.ErrArith
	}
	if x.kind == api.KInt {
		return Int(max(x.n, -x.n))
	}
	return Bits(x.bits &^ signBit)
}

func Whole(how string, a api.Term) (api.Term, api.Errno) {
	x, right := valueOf(a)
	if !isWay(how) || !right {
		return api.Term{}, api.ErrBad
	}
	if x.kind == api.KInt {
		return Int(x.n)
	}
	f := withoutFraction(how, x.real())
	if Exact(f, api.MinInt) < 0 || Exact(f, api.MaxInt) > 0 {
		return api.Term{}, api.ErrLimit
	}
	return Int(int64(f))
}

func Real(a api.Term) (api.Term, api.Errno) {
	x, right := valueOf(a)
	if !right {
		return api.Term{}, api.ErrBad
	}
	return Float(x.real())
}

// Cmp compares exact values; Same tells whether two are identical; Text writes one. Of what is no right number they answer zero values.
func Cmp(a, b api.Term) int {
	x, rightX := valueOf(a)
	y, rightY := valueOf(b)
	switch {
	case !rightX || !rightY:
		return 0
	case y.kind == api.KInt && x.kind == api.KInt:
		return cmp.Compare(x.n, y.n)
	case y.kind == api.KInt:
		return Exact(x.real(), y.n)
	case x.kind == api.KInt:
		return -Exact(y.real(), x.n)
	}
	return cmp.Compare(x.real(), y.real())
}

func Same(a, b api.Term) bool {
	x, rightX := valueOf(a)
	y, rightY := valueOf(b)
	return rightX && rightY && x == y
}

func Text(a api.Term) string {
	x, right := valueOf(a)
	switch {
	case !right:
		return ""
	case x.kind == api.KInt:
		return strconv.FormatInt(x.n, 10)
	}
	digits := strconv.FormatUint(x.bits, 16)
	return "#" + strings.Repeat("0", 16-len(digits)) + digits
}

// Near tells the nearest float; Exact compares a float with a whole number.
func Near(n int64) float64 { return float64(n) }

func Exact(f float64, n int64) int {
	switch {
	case math.IsNaN(f):
		return 2
	case f >= 1<<63:
		return 1
	case f < -1<<63:
		return -1
	}
	// The other way, n as a float, would lose bits of n beyond 2^53.
	whole := math.Trunc(f)
	if c := cmp.Compare(int64(whole), n); c != 0 {
		return c
	}
	return cmp.Compare(f, whole)
}
