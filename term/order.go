package term

import (
	"cmp"
	"math"
	"slices"

	"exitwave/api"
)

// compare, identical are given right terms.
func compare(a, b api.Term) int {
	own, other := kindOf(a), kindOf(b)
	if c := cmp.Compare(own.rank(), other.rank()); c != 0 {
		return c
	}
	return own.compare(a, b)
}

// compareAll puts a front first.
func compareAll(a, b []api.Term) int { return slices.CompareFunc(a, b, compare) }

// identical holds floats against each other by their bits: by == the two zeros would be one.
func identical(a, b api.Term) bool {
	return a.Kind == b.Kind && a.N == b.N && a.S == b.S &&
		math.Float64bits(a.F) == math.Float64bits(b.F) &&
		slices.EqualFunc(a.L, b.L, identical)
}
