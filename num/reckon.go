package num

import (
	"math"
	"math/bits"

	"exitwave/api"
)

func isSign(sign string) bool {
	switch sign {
	case "+", "-", "*", "/", "div", "rem":
		return true
	}
	return false
}

func isWay(how string) bool {
	switch how {
	case "trunc", "round", "floor", "ceil":
		return true
	}
	return false
}

// reckonWholes is given whole numbers: their sum and difference fit an int64, their product need not.
func reckonWholes(sign string, a, b int64) (api.Term, api.Errno) {
	switch sign {
	case "+":
		return Int(a + b)
	case "-":
		return Int(a - b)
	}
	return multiply(a, b)
}

func multiply(a, b int64) (api.Term, api.Errno) {
	high, low := bits.Mul64(size(a), size(b))
	if high != 0 || low > size(api.MinInt) {
		return api.Term{}, api.ErrLimit
	}
	n := int64(low)
	if (a < 0) != (b < 0) {
		n = -n
	}
	return Int(n)
}

func size(n int64) uint64 { return uint64(max(n, -n)) }

func divide(sign string, a, b int64) (api.Term, api.Errno) {
	switch {
	case b == 0:
		return api.Term{}, api.ErrArith
	case sign == "div":
		return Int(a / b)
	}
	return Int(a % b)
}

// reckonFloats converts each outcome: that keeps an operation from being fused with another one, which would round both at once.
func reckonFloats(sign string, a, b float64) (api.Term, api.Errno) {
	switch sign {
	case "+":
		return Float(float64(a + b))
	case "-":
		return Float(float64(a - b))
	case "*":
		return Float(float64(a * b))
	}
	if isZero(b) {
		return api.Term{}, api.ErrArith
	}
	return Float(float64(a / b))
}

func withoutFraction(how string, f float64) float64 {
	switch how {
	case "round":
		return math.Round(f)
	case "floor":
		return math.Floor(f)
	case "ceil":
		return math.Ceil(f)
	}
	return math.Trunc(f)
}
