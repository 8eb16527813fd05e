package exits_test

import (
	"math"
	"slices"
	"testing"

	"exitwave/api"
	"exitwave/exits"
)

var noClasses = []int{0, 4, -1, -3, 5, 1<<32 + 1, 256 + 3, math.MinInt, math.MaxInt}

// thrown says what nobody caught once more.
func thrown(x api.Term) api.Term {
	if t := tuple(atom("nocatch"), x); within(t) {
		return t
	}
	return atom("system_limit")
}

func TestP1601Classes(t *testing.T) {
	for _, x := range rights() {
		expectReason(t, api.CError, x, x, api.OK)
		expectReason(t, api.CExit, x, x, api.OK)
		expectReason(t, api.CThrow, x, thrown(x), api.OK)
	}
}

func TestP1601NoClass(t *testing.T) {
	for _, class := range noClasses {
		for _, x := range slices.Concat(rights(), wrongs(), loops()) {
			expectReason(t, class, x, api.Term{}, api.ErrArg)
		}
	}
}

// A term that is above a limit is refused as ErrTerm, too.
func TestP1601Wrong(t *testing.T) {
	for _, class := range []int{api.CError, api.CExit, api.CThrow} {
		for _, x := range slices.Concat(wrongs(), loops()) {
			expectReason(t, class, x, api.Term{}, api.ErrTerm)
		}
	}
}

// {nocatch, x} has 3 words more than x, and is one deeper.
func TestP1601Bounds(t *testing.T) {
	limit := atom("system_limit")
	for _, x := range []api.Term{wide(api.MaxWords - 4), wide(api.MaxWords - 3), deep(api.MaxDepth - 2), deep(api.MaxDepth - 1)} {
		expectReason(t, api.CThrow, x, tuple(atom("nocatch"), x), api.OK)
	}
	for _, x := range []api.Term{wide(api.MaxWords - 2), wide(api.MaxWords - 1), wide(api.MaxWords), deep(api.MaxDepth)} {
		expectReason(t, api.CThrow, x, limit, api.OK)
		expectReason(t, api.CError, x, x, api.OK)
		expectReason(t, api.CExit, x, x, api.OK)
	}
	both := nested(api.KTuple, api.MaxDepth-1, wide(api.MaxWords-2*(api.MaxDepth-1)))
	expectReason(t, api.CThrow, both, api.Term{}, api.ErrTerm)
	both = nested(api.KTuple, api.MaxDepth-2, wide(api.MaxWords-2*(api.MaxDepth-2)))
	expectReason(t, api.CThrow, both, limit, api.OK)
	expectReason(t, api.CExit, both, both, api.OK)
}

// What is raised is not looked into: what a throw made stands once more inside, if it is thrown.
func TestP1601Again(t *testing.T) {
	x := atom("ball")
	for range 3 {
		r, e := exits.Reason(api.CThrow, x)
		if e != api.OK || !alikeTerm(r, tuple(atom("nocatch"), x)) {
			t.Errorf("P1601 Reason(CThrow, %s): %s, %v", said(x), said(r), e)
		}
		x = r
	}
	expectReason(t, api.CThrow, atom("system_limit"), tuple(atom("nocatch"), atom("system_limit")), api.OK)
}

func TestP1601Own(t *testing.T) {
	for _, class := range []int{0, api.CError, api.CExit, api.CThrow} {
		for _, x := range rights() {
			given := copied(x)
			first, e := exits.Reason(class, given)
			second, _ := exits.Reason(class, given)
			want := copied(first)
			if !alikeTerm(given, x) || !roomStands(given) {
				t.Errorf("P2 Reason(%d, %s) changed what it was given", class, said(x))
			}
			spoilt(given)
			spoilt(second)
			if !alikeTerm(first, want) {
				t.Errorf("P2 Reason(%d, %s), %v: shares memory", class, said(x), e)
			}
		}
	}
}
