package term_test

import (
	"math"
	"strings"
	"testing"

	"exitwave/api"
	"exitwave/term"
)

// deepest is more than calls can be nested in one another.
const deepest = 4000000

// level is what stands so deep in a term that is not right, the next one being an element of it: all kinds, and such as are none; some with fields that they must not have, and with more elements.
func level(n int, next ...api.Term) api.Term {
	t := api.Term{Kind: n%11 - 1, L: next}
	switch {
	case n%1000 == 0:
		t.L = append([]api.Term{list(whole(1)), whole(int64(n))}, next...)
	case n%1000 == 500:
		t.L = append(next[:len(next):len(next)], tuple(float(minus)), atom("behind"))
	case n%100 == 7:
		t.N, t.F, t.S = int64(n), math.Inf(-1), strings.Repeat("x", 70)
	}
	return t
}

// nextOf is the element of a level that is the next one.
func nextOf(n int, t *api.Term) *api.Term {
	if n%1000 == 0 {
		return &t.L[2]
	}
	return &t.L[0]
}

// How deep a term is nested does not matter to Copy, which takes any.
func TestP204CopyDeep(t *testing.T) {
	x := api.Term{Kind: api.KPid, N: -3}
	for n := deepest; n > 0; n-- {
		x = level(n, x)
	}
	y := term.Copy(x)
	a, b := &x, &y
	for n := 1; n <= deepest; n++ {
		at, other := nextOf(n, a), nextOf(n, b)
		if at == other {
			t.Fatalf("P2 Copy: %d deep stands the list that was handed in", n)
		}
		inner, copied := *at, *other
		*at, *other = api.Term{}, api.Term{} // so that they are held against each other without what is in the next one
		if want := level(n, api.Term{}); !alike(*a, want) || !alike(*b, want) {
			t.Fatalf("P204 Copy: %d deep stands %s, of %s; want %s", n, said(*b), said(*a), said(want))
		}
		*at, *other = inner, copied
		a, b = at, other
	}
	if want := (api.Term{Kind: api.KPid, N: -3}); !alike(*a, want) || !alike(*b, want) {
		t.Errorf("P204 Copy: innermost stands %s", said(*b))
	}
}

// The calls that copy what they were given refuse what is nested too deep, however deep that is.
func TestP204MakeDeep(t *testing.T) {
	x := nested(api.KList, deepest, whole(1))
	for _, m := range makers {
		if got, e := m.call(whole(1), x); e != api.ErrLimit || !alike(got, api.Term{}) {
			t.Errorf("P204 %s of what is nested too deep: %s, %v", m.name, said(got), e)
		}
	}
	if got, e := term.Sort([]api.Term{whole(1), x}); e != api.ErrLimit || len(got) != 0 {
		t.Errorf("P205 Sort of what is nested too deep: %d, %v", len(got), e)
	}
}
