package inbox_test

import (
	"testing"

	"exitwave/api"
	"exitwave/inbox"
)

// Drop of each message out of boxes of all sizes, with the place at all places: what is behind the place stays so, and what is just ahead of it.
func TestP1203DropEach(t *testing.T) {
	for size := range 7 {
		for looked := 0; looked <= size; looked++ {
			for n := range size {
				all := atoms("abcdefg")[:size]
				left, place := without(all, n), looked
				if n < looked {
					place--
				}
				b := filled(t, looked, all...)
				expectDrop(t, b, is(all[n]), all[n])
				expectAll(t, b, left...)
				expectRest(t, b, left[place:]...)

				b = filled(t, looked, all...)
				expectDrop(t, b, is(all[n]), all[n])
				if place == 0 {
					expectNoTake(t, b)
					expectRest(t, b, left...)
				} else {
					expectTake(t, b, left[place-1])
					expectRest(t, b, without(left, place-1)...)
				}
			}
		}
	}
}

func TestP1203DropNone(t *testing.T) {
	for looked := range 4 {
		b := filled(t, looked, atoms("abc")...)
		expectNoDrop(t, b, never)
		expectNoDrop(t, b, is(atom("z")))
		expectAll(t, b, atoms("abc")...)
		expectRest(t, b, atoms("abc")[looked:]...)
	}
	b := made(t, 10)
	expectNoDrop(t, b, func(api.Term) bool {
		t.Errorf("P1203 Drop of an empty box asked for a message")
		return true
	})
}

// Where several would do the first one of all is it, looked at or not.
func TestP1203DropFirst(t *testing.T) {
	two := []api.Term{tuple(whole(0)), tuple(whole(1), atom("x")), tuple(whole(2)), tuple(whole(3), atom("x")), tuple(whole(4), atom("x"))}
	for looked := range 6 {
		b := filled(t, looked, two...)
		expectDrop(t, b, func(x api.Term) bool { return len(x.L) == 2 }, two[1])
		expectDrop(t, b, func(x api.Term) bool { return len(x.L) == 2 }, two[3])
		expectAll(t, b, two[0], two[2], two[4])
		expectDrop(t, b, always, two[0])
		expectDrop(t, b, always, two[2])
		expectDrop(t, b, always, two[4])
		expectNoDrop(t, b, always)
		expectAll(t, b)
		expectNoNext(t, b)
		expectNoTake(t, b)
		put(t, b, atom("a"))
		expectNoTake(t, b)
		expectRest(t, b, atom("a"))
	}
}

// Messages are asked for in their order, each by itself, and none behind the one that is so.
func TestP1203DropAsks(t *testing.T) {
	for n := range 5 {
		b := filled(t, 2, atoms("abcd")...)
		var asked []api.Term
		b.Drop(func(x api.Term) bool {
			asked = append(asked, x)
			return len(asked) > n
		})
		if want := atoms("abcd")[:min(n+1, 4)]; !alikeAll(asked, want) {
			t.Errorf("P1203 Drop asked for %s; want %s", said(asked), said(want))
		}
	}
}

// The box may be asked while Drop goes over it.
func TestP1203DropMayAsk(t *testing.T) {
	b := filled(t, 1, atoms("abc")...)
	expectDrop(t, b, func(x api.Term) bool {
		expectAll(t, b, atoms("abc")...)
		return x.S == "b"
	}, atom("b"))
	expectRest(t, b, atom("c"))
	expectAll(t, b, atoms("ac")...)
}

// Messages that come while Drop goes over those that are there are not gone over: it ends.
func TestP1203DropPuts(t *testing.T) {
	b := filled(t, 0, atoms("ab")...)
	asked := 0
	expectNoDrop(t, b, func(x api.Term) bool {
		put(t, b, atom("n"))
		asked++
		return x.S == "n"
	})
	if asked != 2 {
		t.Errorf("P1203 Drop asked %d times; want 2", asked)
	}
	expectAll(t, b, atoms("abnn")...)
}

// What is taken out while Drop goes over it is gone once, whatever is told of it.
func TestP1203DropTakes(t *testing.T) {
	b := filled(t, 0, atoms("abc")...)
	expectDrop(t, b, func(x api.Term) bool {
		if x.S == "a" {
			expectNext(t, b, atom("a"))
			expectTake(t, b, atom("a"))
		}
		return true
	}, atom("b"))
	expectAll(t, b, atom("c"))
	expectRest(t, b, atom("c"))
	expectTake(t, b, atom("c"))
	expectAll(t, b)
}

// All that lies ahead and behind is taken out while Drop stands at one.
func TestP1203DropDrains(t *testing.T) {
	b := filled(t, 2, atoms("abcde")...)
	var asked []api.Term
	expectNoDrop(t, b, func(x api.Term) bool {
		asked = append(asked, x)
		if x.S == "b" {
			drain(b)
			put(t, b, atoms("xy")...)
		}
		return x.S >= "b"
	})
	if !alikeAll(asked, atoms("ab")) {
		t.Errorf("P1203 Drop asked for %s; want a, b", said(asked))
	}
	expectAll(t, b, atoms("xy")...)
	expectRest(t, b, atoms("xy")...)
}

func drain(b *inbox.Box) {
	for b.Len() > 0 {
		b.Drop(always)
	}
}

// A panic of the function that was handed in leaves the box as it was.
func TestP1203DropPanics(t *testing.T) {
	b := filled(t, 1, atoms("abc")...)
	func() {
		defer func() { recover() }()
		b.Drop(func(x api.Term) bool {
			if x.S == "b" {
				panic("b")
			}
			return false
		})
	}()
	expectAll(t, b, atoms("abc")...)
	expectRest(t, b, atoms("bc")...)
}
