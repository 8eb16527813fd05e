package term_test

import (
	"math"
	"math/rand"
	"strings"
	"testing"

	"exitwave/api"
	"exitwave/term"
)

// expectCheck holds Check, Words and Depth against an error, or against the words and the depth that are asked for.
func expectCheck(t *testing.T, x api.Term, e api.Errno, words, depth int) {
	t.Helper()
	if got := term.Check(x); got != e {
		t.Errorf("P201 Check(%.200s): %v; want %v", said(x), got, e)
	}
	if n, got := term.Words(x); got != e || n != words {
		t.Errorf("P201 Words(%.200s): %d, %v; want %d, %v", said(x), n, got, words, e)
	}
	if n, got := term.Depth(x); got != e || n != depth {
		t.Errorf("P201 Depth(%.200s): %d, %v; want %d, %v", said(x), n, got, depth, e)
	}
}

func TestP201Rights(t *testing.T) {
	for _, x := range rights() {
		expectCheck(t, x, api.OK, wordsOf(x), depthOf(x))
	}
	for _, c := range []struct {
		x            api.Term
		words, depth int
	}{
		{whole(5), 0, 1}, {float(5), 2, 1}, {atom("a"), 0, 1}, {ref(1), 2, 1}, {pid(1), 0, 1}, {fun(1), 2, 1}, {tuple(), 1, 1}, {list(), 0, 1},
		{tuple(whole(1)), 2, 2}, {list(whole(1)), 2, 2}, {fun(1, whole(1)), 3, 2},
		{tuple(float(1), list(ref(1), pid(1)), fun(1, tuple())), 1 + 3 + 2 + (4 + 2) + (2 + 1 + 1), 3},
		{nested(api.KList, 199, whole(1)), 398, 200}, {nested(api.KTuple, 199, list()), 398, 200}, {nested(api.KFun, 199, pid(1)), 597, 200},
		{list(times(1<<15, whole(1))...), 1 << 16, 2}, {tuple(times(1<<16-1, atom(""))...), 1 << 16, 2}, {fun(1, times(1<<16-2, pid(1))...), 1 << 16, 2},
		{list(times(1<<14, float(1))...), 1 << 16, 2}, {list(times(1<<14, ref(1))...), 1 << 16, 2},
		{atom(strings.Repeat("a", 64)), 0, 1}, {ref(1 << 40), 2, 1}, {pid(1 << 40), 0, 1}, {fun(1 << 14), 2, 1},
		{api.Term{Kind: api.KInt, L: []api.Term{}}, 0, 1},
	} {
		expectCheck(t, c.x, api.OK, c.words, c.depth)
	}
}

func TestP201Wrongs(t *testing.T) {
	for _, x := range wrongs() {
		expectCheck(t, x, api.ErrTerm, 0, 0)
	}
}

// A limit is told ahead of what is not right, wherever in the term that stands.
func TestP201Beyond(t *testing.T) {
	for _, x := range beyond() {
		expectCheck(t, x, api.ErrLimit, 0, 0)
	}
	for _, x := range []api.Term{{}, float(nan), {Kind: api.KAtom, N: 1}, {Kind: 9, S: "a"}} {
		x.L = []api.Term{nested(api.KList, 200, whole(1))}
		expectCheck(t, x, api.ErrLimit, 0, 0)
		expectCheck(t, list(nested(api.KTuple, 200, whole(1)), x), api.ErrLimit, 0, 0)
	}
}

// What is no kind is counted as a tuple; of what has no L by its kind the elements are counted, but not their places.
func TestP201CountsWrongs(t *testing.T) {
	for _, c := range []struct {
		x   api.Term
		own int // words of x
	}{
		{api.Term{}, 1},
		{api.Term{Kind: 9}, 1},
		{api.Term{Kind: -1, L: times(5, whole(1))}, 6},
		{api.Term{Kind: 9, L: times(5, float(1))}, 16},
		{api.Term{Kind: api.KInt, L: times(5, whole(1))}, 0},
		{api.Term{Kind: api.KInt, L: times(5, float(1))}, 10},
		{api.Term{Kind: api.KAtom, L: times(5, ref(1))}, 10},
		{api.Term{Kind: api.KPid, L: times(5, tuple())}, 5},
		{api.Term{Kind: api.KFloat, L: times(5, float(1))}, 12},
		{api.Term{Kind: api.KRef, L: times(5, whole(1))}, 2},
		{api.Term{Kind: api.KList, N: 1, L: times(5, whole(1))}, 10},
		{api.Term{Kind: api.KFun, N: -1, L: times(5, whole(1))}, 7},
		{api.Term{Kind: api.KTuple, S: "a", L: times(5, whole(1))}, 6},
		{float(nan), 2}, {ref(-1), 2}, {pid(-1), 0}, {whole(1 << 59), 0}, {atom(strings.Repeat("a", 65)), 0},
	} {
		rest := api.MaxWords - 3 - c.own // of {X, {..}}: 1 + 2, and 1 of the inner one
		expectCheck(t, tuple(c.x, tuple(times(rest-1, whole(1))...)), api.ErrTerm, 0, 0)
		expectCheck(t, tuple(c.x, tuple(times(rest, whole(1))...)), api.ErrLimit, 0, 0)
		expectCheck(t, tuple(tuple(times(rest, whole(1))...), c.x), api.ErrLimit, 0, 0)
	}
	for kind := -1; kind <= 9; kind++ {
		right := kind == api.KFun || kind == api.KTuple || kind == api.KList
		x := nested(kind, 199, whole(1))
		if e := term.Check(x); (e == api.OK) != right || !right && e != api.ErrTerm {
			t.Errorf("P201 Check of kind %d, 200 deep: %v", kind, e)
		}
	}
}

// A list that has itself as an element has no end: no more of it is looked at than the limits allow.
func TestP201NoEnd(t *testing.T) {
	for kind := -1; kind <= 9; kind++ {
		for _, n := range []int{1, 2, 1000} {
			l := make([]api.Term, n)
			for i := range l {
				l[i] = api.Term{Kind: kind, L: l}
			}
			expectCheck(t, l[0], api.ErrLimit, 0, 0)
		}
	}
	x := list(whole(1))
	for range 100 {
		x = list(x, x)
	}
	expectCheck(t, x, api.ErrLimit, 0, 0)
}

func TestP201ByChance(t *testing.T) {
	r := rand.New(rand.NewSource(201))
	for range 20000 {
		x := somehow(r, 4, r.Intn(2) == 0)
		if isRight(x) {
			expectCheck(t, x, api.OK, wordsOf(x), depthOf(x))
		} else {
			expectCheck(t, x, api.ErrTerm, 0, 0)
		}
	}
}

// isRight says W2 without the limits once more, in other words than the program's.
func isRight(x api.Term) bool {
	own := api.Term{Kind: x.Kind}
	switch x.Kind {
	case api.KInt:
		own.N = min(max(x.N, -576460752303423488), 576460752303423487)
	case api.KFloat:
		own.F = x.F
		if math.IsNaN(x.F) || math.IsInf(x.F, 0) {
			return false
		}
	case api.KAtom:
		own.S = x.S[:min(len(x.S), 64)]
	case api.KRef, api.KPid:
		own.N = min(max(x.N, 0), 1099511627776)
	case api.KFun:
		own.N, own.L = min(max(x.N, 0), 16384), x.L
	case api.KTuple, api.KList:
		own.L = x.L
	default:
		return false
	}
	for _, y := range x.L {
		if !isRight(y) {
			return false
		}
	}
	return alike(own, x)
}

// wordsOf, depthOf say W3 and W2 of a right term once more.
func wordsOf(x api.Term) int {
	a := 0
	for _, y := range x.L {
		a += wordsOf(y)
	}
	per := []int{0, 0, 0, 0, 0, 1, 0, 1, 2}[x.Kind]
	own := []int{0, 0, 2, 0, 2, 2, 0, 1, 0}[x.Kind]
	return own + per*len(x.L) + a
}

func depthOf(x api.Term) int {
	deepest := 0
	for _, y := range x.L {
		deepest = max(deepest, depthOf(y))
	}
	return deepest + 1
}
