package ether_test

import (
	"testing"

	"exitwave/api"
)

// deepOne is a message in which lists stand within lists; one list stands in it twice.
func deepOne() api.Signal {
	twice := list(whole(1), tuple(float(2), atom("a")))
	return api.Signal{From: 1, To: 2, Kind: api.SMessage, Term: tuple(twice, fun(3, twice, list(twice)), twice)}
}

// What is handed in stays as it was, its spare room too, and is not kept (P2).
func TestP1102PutOwn(t *testing.T) {
	for _, s := range []api.Signal{deepOne(), plain(api.SExit, 1, 2), plain(api.SDown, 1, 2), {From: 1, To: 2, Kind: api.SLink, Term: api.Term{L: []api.Term{}}}} {
		given := copiedSignal(s)
		e := filled(t, given, given)
		if !alike(given, s) || !roomStands(given.Term) {
			t.Errorf("P2 Put changed what it was given: %s", said(given))
		}
		spoilt(given.Term)
		expectAll(t, e, s, s)
		expectPeek(t, e, 1, 2, s)
		expectTake(t, e, 1, 2, s)
		expectTake(t, e, 1, 2, s)
	}
}

// What is told is the caller's own (P2).
func TestP1102ToldOwn(t *testing.T) {
	s := deepOne()
	e := filled(t, s, s, s)
	for range 3 {
		x, _ := e.Peek(1, 2)
		spoilt(x.Term)
		expectPeek(t, e, 1, 2, s)
		for _, lane := range e.Lanes() {
			for i, x := range lane.Signals[:cap(lane.Signals)] {
				spoilt(x.Term)
				lane.Signals[:cap(lane.Signals)][i] = message(8, 8, 8)
			}
		}
		expectAll(t, e, s, s, s)
	}
	x, _ := e.Take(1, 2)
	spoilt(x.Term)
	expectAll(t, e, s, s)
	put(t, e, s)
	expectAll(t, e, s, s, s)
}

// No two lists of one answer share memory, also where those that were handed in do (P2).
func TestP1103Shared(t *testing.T) {
	s := deepOne()
	other := s
	other.From = 3
	e := filled(t, s, s, other)
	expectApart(t, "Take", signalsOf(e.Take(1, 2)))
	expectApart(t, "Peek", signalsOf(e.Peek(1, 2)))
	put(t, e, s)
	var all []api.Signal
	told := e.Lanes()
	for n, lane := range told {
		all = append(all, lane.Signals...)
		for i := range lane.Signals[:cap(lane.Signals)] {
			lane.Signals[:cap(lane.Signals)][i].Id = -n - 1
		}
	}
	for n, lane := range told {
		for _, x := range lane.Signals[:cap(lane.Signals)] {
			if x.Id != -n-1 {
				t.Errorf("P2 Lanes: two lanes share memory")
			}
		}
	}
	expectApart(t, "Lanes", all)
}

func signalsOf(s api.Signal, _ bool) []api.Signal { return []api.Signal{s} }

// expectApart marks each list of the signals' terms, with its spare room, by a number of its own.
func expectApart(t *testing.T, call string, l []api.Signal) {
	t.Helper()
	var lists [][]api.Term
	for _, s := range l {
		lists = listsOf(lists, s.Term)
	}
	if len(lists) < 8*len(l) {
		t.Fatalf("%s: %d lists: too few to tell", call, len(lists))
	}
	for n, one := range lists {
		for i := range one {
			one[i].N = int64(n)
		}
	}
	for n, one := range lists {
		for _, x := range one {
			if x.N != int64(n) {
				t.Fatalf("P2 %s: two lists of the answer share memory", call)
			}
		}
	}
}

func listsOf(out [][]api.Term, x api.Term) [][]api.Term {
	if cap(x.L) > 0 {
		out = append(out, x.L[:cap(x.L)])
	}
	for _, y := range x.L {
		out = listsOf(out, y)
	}
	return out
}

func TestP1103ReadyOwn(t *testing.T) {
	e := filled(t, message(1, 2, 1), message(3, 2, 1))
	l := e.Ready(2)
	for i := range l[:cap(l)] {
		l[:cap(l)][i] = 77
	}
	expectReady(t, e, 2, 1, 3)
}

// A list that is told is not one that goes on to change with the ether.
func TestP1103ToldThen(t *testing.T) {
	e := filled(t, message(1, 2, 1), message(1, 2, 2))
	lanes, ready := e.Lanes(), e.Ready(2)
	e.Take(1, 2)
	put(t, e, message(1, 2, 3), message(1, 2, 4), message(0, 2, 5))
	e.Take(1, 2)
	if len(lanes) != 1 || !alikeAll(lanes[0].Signals, []api.Signal{message(1, 2, 1), message(1, 2, 2)}) || len(ready) != 1 || ready[0] != 1 {
		t.Errorf("P2 Lanes, Ready: what was told changed: %s, %v", said(lanes), ready)
	}
}

// The spare room behind a list without elements is not told, either (P2).
func TestP1102NoRoom(t *testing.T) {
	s := api.Signal{From: 1, To: 2, Kind: api.SLink, Term: api.Term{L: times(3, whole(1))[:0]}}
	e := filled(t, s, s)
	for _, x := range append(e.Lanes()[0].Signals, signalsOf(e.Peek(1, 2))[0], signalsOf(e.Take(1, 2))[0]) {
		if cap(x.Term.L) > 0 {
			t.Errorf("P2: the room of what was handed in is told: %v", x.Term.L[:cap(x.Term.L)])
		}
	}
}
