package num

import (
	"math"

	"exitwave/api"
)

const (
	signBit     = 1 << 63
	exponentAll = 0x7ff << 52
)

// value is a number that == holds against another one. A float stands in it by its bits: by == the two zeros would be one.
type value struct {
	kind int
	n    int64
	bits uint64
}

// valueOf tells the number that a term is, and whether it is a right one (W2).
func valueOf(t api.Term) (value, bool) {
	all := value{t.Kind, t.N, math.Float64bits(t.F)}
	own, right := value{}, false
	switch t.Kind {
	case api.KInt:
		own, right = value{kind: api.KInt, n: t.N}, isWhole(t.N)
	case api.KFloat:
		own, right = value{kind: api.KFloat, bits: all.bits}, isFinite(all.bits)
	}
	// What the kind does not have must be zero; of F +0 alone, so that an answer which tells a number again has no -0.0 there.
	if !right || all != own || t.S != "" || len(t.L) != 0 {
		return value{}, false
	}
	return own, true
}

// real tells a right number as a float.
func (v value) real() float64 {
	if v.kind == api.KInt {
		return Near(v.n)
	}
	return math.Float64frombits(v.bits)
}

func isWhole(n int64) bool { return n >= api.MinInt && n <= api.MaxInt }

func isFinite(u uint64) bool { return u&exponentAll != exponentAll }

// isZero takes both zeros: they differ in their sign bit alone.
func isZero(f float64) bool { return math.Float64bits(f)<<1 == 0 }
