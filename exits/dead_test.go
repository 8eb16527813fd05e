package exits_test

import (
	"math"
	"testing"

	"exitwave/api"
	"exitwave/exits"
)

var ways = [][2]int{{1, 7}, {7, 1}, {7, 7}, {1, 1}, {far, 1}, {1, far}, {far, far}}

// answered says P1604 once more.
func answered(s api.Signal) api.Signal {
	x := api.Signal{From: s.To, To: s.From}
	switch {
	case s.From == 0:
		return api.Signal{}
	case s.Kind == api.SLink:
		x.Kind, x.Link, x.Term = api.SExit, true, atom("noproc")
	case s.Kind == api.SUnlink:
		x.Kind, x.Id = api.SUnlinkAck, s.Id
	case s.Kind == api.SMonitor:
		x.Kind, x.Ref, x.Term = api.SDown, s.Ref, atom("noproc")
	default:
		return api.Signal{}
	}
	return x
}

func TestP1604WrittenOut(t *testing.T) {
	expectDead(t, api.Signal{From: 3, To: 7, Kind: api.SLink}, api.Signal{From: 7, To: 3, Kind: api.SExit, Link: true, Term: atom("noproc")})
	expectDead(t, api.Signal{From: 3, To: 7, Kind: api.SUnlink, Id: 4}, api.Signal{From: 7, To: 3, Kind: api.SUnlinkAck, Id: 4})
	expectDead(t, api.Signal{From: 3, To: 7, Kind: api.SMonitor, Ref: 5}, api.Signal{From: 7, To: 3, Kind: api.SDown, Ref: 5, Term: atom("noproc")})
}

func TestP1604Kinds(t *testing.T) {
	for _, kind := range kinds {
		for _, way := range ways {
			s := plain(kind, way[0], way[1])
			expectDead(t, s, answered(s))
		}
	}
}

// The dead answer nothing to those that no one asked of them to answer.
func TestP1604Others(t *testing.T) {
	for _, way := range ways {
		for _, kind := range []int{api.SMessage, api.SUnlinkAck, api.SDemonitor, api.SDown, api.SExit} {
			expectDead(t, plain(kind, way[0], way[1]), api.Signal{})
		}
		for _, x := range rights() {
			expectDead(t, exitOf(way[0], way[1], false, x), api.Signal{})
			expectDead(t, exitOf(way[0], way[1], true, x), api.Signal{})
			expectDead(t, downOf(way[0], way[1], 1, x), api.Signal{})
		}
	}
}

func TestP1604Nobody(t *testing.T) {
	for _, kind := range kinds {
		for _, to := range []int{1, 7, far} {
			expectDead(t, plain(kind, 0, to), api.Signal{})
		}
	}
}

func TestP1604Numbers(t *testing.T) {
	for _, way := range ways {
		for _, n := range []int{1, 2, 1 << 16, 1 << 32, far, math.MaxInt} {
			expectDead(t, api.Signal{From: way[0], To: way[1], Kind: api.SUnlink, Id: n}, api.Signal{From: way[1], To: way[0], Kind: api.SUnlinkAck, Id: n})
		}
		for _, n := range []int{1, 2, 1 << 16, 1 << 32, far} {
			for _, name := range []string{"", "a", "noproc"} {
				expectDead(t, api.Signal{From: way[0], To: way[1], Kind: api.SMonitor, Ref: n, Name: name}, downOf(way[1], way[0], n, atom("noproc")))
			}
		}
	}
}

// What is no kind is answered by nothing, and no signal makes Dead panic, or go on without an end (P1).
func TestP1604Wrong(t *testing.T) {
	for _, kind := range []int{0, 9, -1, 1<<32 + api.SLink, math.MinInt, math.MaxInt} {
		s := plain(api.SMonitor, 1, 7)
		s.Kind = kind
		expectDead(t, s, api.Signal{})
	}
	expectDead(t, api.Signal{}, api.Signal{})
	for _, kind := range kinds {
		for _, l := range refused(kind) {
			for _, s := range l {
				expectDead(t, s, answered(s))
			}
		}
	}
}

// Two answers share nothing (P2).
func TestP1604Own(t *testing.T) {
	for _, kind := range kinds {
		given := plain(kind, 1, 7)
		given.Term = copied(given.Term)
		first, _ := exits.Dead(given)
		second, _ := exits.Dead(given)
		if !alikeTerm(given.Term, plain(kind, 1, 7).Term) || !roomStands(given.Term) {
			t.Errorf("P2 Dead(%s) changed what it was given", said(given))
		}
		spoilt(given.Term)
		spoilt(second.Term)
		if want := answered(plain(kind, 1, 7)); !alike(first, want) {
			t.Errorf("P2 Dead: %s; want %s", said(first), said(want))
		}
	}
}
