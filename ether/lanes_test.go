package ether_test

import (
	"math"
	"math/rand"
	"slices"
	"testing"

	"exitwave/api"
	"exitwave/ether"
)

// Each kind comes out as it was put in, and looking at it takes nothing out.
func TestP1102Kinds(t *testing.T) {
	for _, kind := range kinds {
		s := plain(kind, 3, 4)
		e := filled(t, s)
		for range 3 {
			expectPeek(t, e, 3, 4, s)
			if e.Len(3, 4) != 1 || e.All() != 1 {
				t.Errorf("P1102 Peek took something: %d, %d", e.Len(3, 4), e.All())
			}
		}
		expectTake(t, e, 3, 4, s)
		expectNone(t, e, 3, 4)
		expectAll(t, e)
	}
}

// Terms come out by their bits.
func TestP1102Terms(t *testing.T) {
	e := ether.New()
	var l []api.Signal
	for _, x := range rights() {
		l = append(l, api.Signal{From: 1, To: 2, Kind: api.SMessage, Term: x})
	}
	put(t, e, l...)
	expectAll(t, e, l...)
	for _, s := range l {
		expectPeek(t, e, 1, 2, s)
		expectTake(t, e, 1, 2, s)
	}
	expectNone(t, e, 1, 2)
}

func TestP1102InOrder(t *testing.T) {
	e := ether.New()
	var l []api.Signal
	for n := range 50 {
		l = append(l, message(1, 2, int64(n)))
		put(t, e, l[n])
		expectPeek(t, e, 1, 2, l[0])
		if e.Len(1, 2) != n+1 || e.All() != n+1 {
			t.Errorf("P1102 behind %d: Len %d, All %d", n+1, e.Len(1, 2), e.All())
		}
	}
	for n, s := range l {
		expectAll(t, e, l[n:]...)
		expectTake(t, e, 1, 2, s)
		if rest := len(l) - n - 1; e.Len(1, 2) != rest || e.All() != rest {
			t.Errorf("P1102: Len %d, All %d; want %d", e.Len(1, 2), e.All(), rest)
		}
	}
	expectNone(t, e, 1, 2)
}

// Signals that are the same are as many as were put.
func TestP1102Same(t *testing.T) {
	s := plain(api.SLink, 1, 2)
	e := filled(t, s, s, s)
	for n := 3; n > 0; n-- {
		if e.Len(1, 2) != n {
			t.Errorf("P1102 Len: %d; want %d", e.Len(1, 2), n)
		}
		expectTake(t, e, 1, 2, s)
	}
	expectNone(t, e, 1, 2)
}

// Lanes that are empty, were never there, or may not be, have no signals.
func TestP1102Nothing(t *testing.T) {
	strange := []int{math.MinInt, -far, -1, 0, 1, 2, 3, far, far + 1, math.MaxInt}
	for _, e := range []*ether.Ether{ether.New(), {}} {
		for range 2 {
			for _, from := range strange {
				for _, to := range strange {
					expectNone(t, e, from, to)
				}
				expectReady(t, e, from)
			}
			expectAll(t, e)
			put(t, e, message(5, 6, 1))
			expectTake(t, e, 5, 6, message(5, 6, 1))
			expectNone(t, e, 5, 6)
		}
	}
}

// A lane and the one that goes the other way, and those of one to itself, and those from nobody, are others.
func TestP1102Apart(t *testing.T) {
	var l []api.Signal
	for from := range 4 {
		for to := 1; to < 4; to++ {
			l = append(l, message(from, to, int64(10*from+to)))
		}
	}
	l = append(l, message(far, 1, 1), message(1, far, 2), message(far, far, 3), message(0, far, 4), message(1<<32+1, 2, 5), message(1, 1<<32+2, 6))
	for n, s := range l {
		e := filled(t, l...)
		expectTake(t, e, s.From, s.To, s)
		expectNone(t, e, s.From, s.To)
		expectAll(t, e, slices.Concat(l[:n], l[n+1:])...)
	}
	expectNone(t, filled(t, message(1, 2, 1)), 2, 1)
}

func TestP1102FilledAgain(t *testing.T) {
	e := filled(t, message(3, 2, 0))
	for n := range 20 {
		l := []api.Signal{message(1, 2, int64(n)), plain(api.SLink, 1, 2), message(1, 2, int64(n+1))}
		put(t, e, l[:1+n%3]...)
		expectReady(t, e, 2, 1, 3)
		for _, s := range l[:1+n%3] {
			expectTake(t, e, 1, 2, s)
		}
		expectNone(t, e, 1, 2)
		expectReady(t, e, 2, 3)
		expectAll(t, e, message(3, 2, 0))
	}
}

// A Put that is refused changes nothing (P5).
func TestP1102Refused(t *testing.T) {
	l := []api.Signal{message(1, 2, 1), plain(api.SDown, 1, 2), plain(api.SExit, 0, 1)}
	e := filled(t, l...)
	for _, s := range []api.Signal{{}, {From: 1, To: 2}, {From: 1, To: 2, Kind: 9}, {From: 1, To: 2, Kind: api.SLink, Ref: 1}, {From: 1, To: 2, Kind: api.SMessage}, {From: 7, To: 2, Kind: api.SUnlink}, {From: 1, To: 7, Kind: api.SMessage, Term: whole(1), Name: "a"}, {From: -1, To: 2, Kind: api.SLink}, {From: 1, To: far + 1, Kind: api.SLink}} {
		want := ether.Check(s)
		if got := e.Put(s); got != want || got == api.OK {
			t.Errorf("P1102 Put(%s): %v; want %v", said(s), got, want)
		}
		expectAll(t, e, l...)
		expectReady(t, e, 2, 1)
		expectReady(t, e, 7)
	}
	for _, s := range l {
		expectTake(t, e, s.From, s.To, s)
	}
	expectAll(t, e)
}

// Two ethers have nothing in common (P7).
func TestP1102Two(t *testing.T) {
	a, b := filled(t, message(1, 2, 1)), ether.New()
	expectAll(t, b)
	put(t, b, message(1, 2, 2), message(1, 2, 3))
	expectAll(t, a, message(1, 2, 1))
	expectTake(t, a, 1, 2, message(1, 2, 1))
	expectAll(t, b, message(1, 2, 2), message(1, 2, 3))
}

// By From, and then by To, however the lanes came to be: as numbers, not as texts, and From ahead of To.
func TestP1103Lanes(t *testing.T) {
	ends := []int{1, 2, 3, 9, 10, 11, 100, 1 << 20, 1 << 32, far - 1, far}
	var l []api.Signal
	for _, from := range append([]int{0}, ends...) {
		for _, to := range ends {
			l = append(l, message(from, to, 1), message(from, to, 2))
		}
	}
	r := rand.New(rand.NewSource(1103))
	for range 30 {
		e := ether.New()
		for _, n := range r.Perm(len(l) / 2) {
			put(t, e, l[2*n], l[2*n+1])
		}
		told := e.Lanes()
		if len(told) != len(l)/2 {
			t.Fatalf("P1103 Lanes: %d; want %d", len(told), len(l)/2)
		}
		for n, lane := range told {
			if !alikeLane(lane, api.Lane{From: l[2*n].From, To: l[2*n].To, Signals: l[2*n : 2*n+2]}) {
				t.Fatalf("P1103 Lanes: %s at %d; want %s", said(lane), n, said(l[2*n:2*n+2]))
			}
		}
	}
}

// Lanes tells the first signal first, and those that are left when some were taken.
func TestP1103Signals(t *testing.T) {
	e := ether.New()
	var l []api.Signal
	for n := range 9 {
		l = append(l, plain(kinds[n%len(kinds)], 4, 5))
	}
	put(t, e, l...)
	for n := range l {
		expectLanes(t, e, api.Lane{From: 4, To: 5, Signals: l[n:]})
		e.Take(4, 5)
	}
	expectLanes(t, e)
}

func TestP1103Ready(t *testing.T) {
	from := []int{0, 1, 2, 3, 9, 10, 11, 100, 1 << 20, 1 << 32, far - 1, far}
	r := rand.New(rand.NewSource(1103))
	for range 30 {
		e := filled(t, message(4, 5, 0), message(6, 1, 0))
		for _, n := range r.Perm(len(from)) {
			put(t, e, message(from[n], 6, 1), message(from[n], 6, 2))
			put(t, e, message(6, max(1, from[n]), 3))
		}
		expectReady(t, e, 6, from...)
		expectReady(t, e, 5, 4)
		expectReady(t, e, 1, 6)
		expectReady(t, e, 100, 6)
		expectReady(t, e, 4)
		e.Take(9, 6)
		expectReady(t, e, 6, from...)
		e.Take(9, 6)
		expectReady(t, e, 6, slices.Concat(from[:4], from[5:])...)
	}
}

// Many lanes to one, and from one.
func TestP1103Many(t *testing.T) {
	const many = 5000
	e := ether.New()
	for n := many; n > 0; n-- {
		put(t, e, message(n, 1, int64(n)), message(1, n, int64(-n)))
	}
	l := e.Ready(1)
	if len(l) != many || !slices.IsSorted(l) || l[0] != 1 || l[many-1] != many {
		t.Errorf("P1103 Ready(1): %d; want %d", len(l), many)
	}
	lanes := e.Lanes()
	if len(lanes) != 2*many-1 || e.All() != 2*many || e.Len(1, 1) != 2 {
		t.Fatalf("P1103 Lanes: %d, All %d; want %d, %d", len(lanes), e.All(), 2*many-1, 2*many)
	}
	for n, lane := range lanes {
		from, to := 1, n+1
		if n >= many {
			from, to = n-many+2, 1
		}
		if lane.From != from || lane.To != to {
			t.Fatalf("P1103 Lanes: from %d to %d at %d; want from %d to %d", lane.From, lane.To, n, from, to)
		}
	}
	for n := 2; n <= many; n++ {
		expectTake(t, e, n, 1, message(n, 1, int64(n)))
		expectTake(t, e, 1, n, message(1, n, int64(-n)))
	}
	expectAll(t, e, message(1, 1, 1), message(1, 1, -1))
	expectReady(t, e, 1, 1)
}
