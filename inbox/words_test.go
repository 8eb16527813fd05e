package inbox_test

import (
	"math"
	"testing"

	"exitwave/api"
	"exitwave/inbox"
)

func TestP1201New(t *testing.T) {
	for _, words := range []int{0, -1, wide + 1, wide + 2, -wide, math.MinInt, math.MaxInt, 1 << 32, 1<<32 + 1, -1 << 32} {
		if b, e := inbox.New(words); b != nil || e != api.ErrArg {
			t.Errorf("P1201 New(%d): %v, %v; want arg", words, b, e)
		}
	}
	for _, words := range []int{1, 2, 3, 100, 1 << 16, wide - 1, wide} {
		b := made(t, words)
		expectAll(t, b)
		expectNoNext(t, b)
		expectNoTake(t, b)
		expectNoDrop(t, b, always)
		b.Rewind()
		expectAll(t, b)
	}
}

// A face that makes an object makes one that nobody else has (P7).
func TestP1201Apart(t *testing.T) {
	a, b := made(t, 10), made(t, 10)
	put(t, a, atoms("ab")...)
	expectAll(t, b)
	put(t, b, atom("c"))
	expectNext(t, a, atom("a"))
	expectNoTake(t, b)
	expectAll(t, a, atoms("ab")...)
	expectAll(t, b, atom("c"))
}

// Each kind comes out as it was put in, by its bits, and counts its words and 2 more.
func TestP1201Terms(t *testing.T) {
	b := made(t, wide)
	var all []api.Term
	words := 0
	for _, x := range rights() {
		expectPut(t, b, x.term, api.OK)
		all = append(all, x.term)
		if words += x.words; b.Words() != words || b.Len() != len(all) {
			t.Errorf("P1201 behind Put(%s): %d words of %d messages; want %d of %d", said(x.term), b.Words(), b.Len(), words, len(all))
		}
	}
	expectAll(t, b, all...)
	expectNext(t, b, all...)
	expectNoNext(t, b)
	for _, x := range rights() {
		b.Rewind()
		expectNext(t, b, x.term)
		expectTake(t, b, x.term)
		if words -= x.words; b.Words() != words {
			t.Errorf("P1201 behind Take of %s: %d words; want %d", said(x.term), b.Words(), words)
		}
	}
	expectAll(t, b)
}

// A box that a message just fills, and one that has one word less.
func TestP1201JustFull(t *testing.T) {
	for _, x := range rights() {
		b := made(t, x.words)
		expectPut(t, b, x.term, api.OK)
		expectAll(t, b, x.term)
		expectPut(t, b, whole(1), api.ErrLimit)
		expectAll(t, b, x.term)
		b = made(t, x.words-1)
		expectPut(t, b, x.term, api.ErrLimit)
		expectAll(t, b)
		expectNoNext(t, b)
		b = made(t, 4+x.words)
		put(t, b, atoms("ab")...)
		expectPut(t, b, x.term, api.OK)
		expectAll(t, b, atom("a"), atom("b"), x.term)
		b = made(t, 3+x.words)
		put(t, b, atoms("ab")...)
		expectPut(t, b, x.term, api.ErrLimit)
		expectAll(t, b, atoms("ab")...)
	}
}

// All sizes of a box with all sizes of a message into what is left.
func TestP1201Sizes(t *testing.T) {
	for words := 1; words <= 20; words++ {
		for first := 1; first <= 18; first++ {
			for second := 1; second <= 18; second++ {
				b := made(t, words)
				var want []api.Term
				for _, x := range []api.Term{sized(first), sized(second)} {
					if counted(want)+counted([]api.Term{x}) <= words {
						expectPut(t, b, x, api.OK)
						want = append(want, x)
					} else {
						expectPut(t, b, x, api.ErrLimit)
					}
				}
				expectAll(t, b, want...)
			}
		}
	}
}

// What is taken out makes room for as much.
func TestP1201RoomAgain(t *testing.T) {
	b := made(t, 14)
	put(t, b, sized(3), sized(5), whole(1))
	expectPut(t, b, whole(2), api.ErrLimit)
	expectDrop(t, b, is(sized(5)), sized(5))
	expectPut(t, b, sized(6), api.ErrLimit)
	expectPut(t, b, sized(5), api.OK)
	expectPut(t, b, whole(2), api.ErrLimit)
	expectNext(t, b, sized(3))
	expectTake(t, b, sized(3))
	expectPut(t, b, sized(4), api.ErrLimit)
	expectPut(t, b, whole(2), api.OK)
	expectPut(t, b, tuple(), api.OK)
	expectAll(t, b, whole(1), sized(5), whole(2), tuple())
	expectPut(t, b, list(), api.ErrLimit)
}

// Looking at messages makes no room.
func TestP1201LookedCounts(t *testing.T) {
	b := made(t, 4)
	put(t, b, atoms("ab")...)
	expectNext(t, b, atoms("ab")...)
	expectPut(t, b, atom("c"), api.ErrLimit)
	b.Rewind()
	expectPut(t, b, atom("c"), api.ErrLimit)
	expectNoDrop(t, b, never)
	expectPut(t, b, atom("c"), api.ErrLimit)
	expectAll(t, b, atoms("ab")...)
}

// The widest box takes what it may take, and not one word more.
func TestP1201Widest(t *testing.T) {
	b := made(t, wide)
	great := list(times(1<<14, float(1))...)
	left := wide
	for ; left >= 1<<16+2; left -= 1<<16 + 2 {
		expectPut(t, b, great, api.OK)
	}
	expectPut(t, b, great, api.ErrLimit)
	expectPut(t, b, sized(left-2+1), api.ErrLimit)
	expectPut(t, b, sized(left-2), api.OK)
	if b.Words() != wide || b.Len() != 256 {
		t.Errorf("P1201: %d words of %d messages; want %d of 256", b.Words(), b.Len(), wide)
	}
	expectPut(t, b, whole(1), api.ErrLimit)
	expectNext(t, b, great)
	expectTake(t, b, great)
	expectPut(t, b, great, api.OK)
	expectPut(t, b, whole(1), api.ErrLimit)
	if b.Words() != wide || b.Len() != 256 {
		t.Errorf("P1201: %d words of %d messages; want %d of 256", b.Words(), b.Len(), wide)
	}
}

// A term that is not right is refused, whether or not there is room, and changes nothing (P5).
func TestP1201Wrong(t *testing.T) {
	try := func(l []api.Term, want api.Errno) {
		t.Helper()
		for _, x := range l {
			for _, words := range []int{1, 4, wide} {
				b := made(t, words)
				expectPut(t, b, x, want)
				expectAll(t, b)
				expectNoNext(t, b)
			}
			b := made(t, 6)
			put(t, b, atoms("abc")...)
			expectNext(t, b, atoms("ab")...)
			expectPut(t, b, x, want)
			expectAll(t, b, atoms("abc")...)
			expectRest(t, b, atom("c"))
			expectTake(t, b, atom("c"))
			expectAll(t, b, atoms("ab")...)
		}
	}
	try(wrongs(), api.ErrTerm)
	try(greats(), api.ErrLimit)
}

// A term that has no room would be too many words, but what it is comes first (P6).
func TestP1201First(t *testing.T) {
	b := made(t, 2)
	put(t, b, atom("a"))
	expectPut(t, b, list(whole(1), api.Term{}), api.ErrTerm)
	expectPut(t, b, list(whole(1), whole(2)), api.ErrLimit)
	expectPut(t, b, tuple(append(times(100, whole(1)), whole(api.MaxInt+1))...), api.ErrTerm)
	expectAll(t, b, atom("a"))
}

// A Put that was refused for want of room changes nothing, the place neither (P5).
func TestP1201NoRoom(t *testing.T) {
	b := made(t, 7)
	put(t, b, atoms("abc")...)
	expectNext(t, b, atom("a"))
	for range 5 {
		expectPut(t, b, atom("d"), api.ErrLimit)
		expectPut(t, b, sized(1<<16), api.ErrLimit)
	}
	expectRest(t, b, atoms("bc")...)
	expectAll(t, b, atoms("abc")...)
	expectTake(t, b, atom("c"))
	expectPut(t, b, tuple(), api.OK)
}

// A box that New did not make has room for none; no call on it panics (P1).
func TestP1Zero(t *testing.T) {
	var b inbox.Box
	expectNoNext(t, &b)
	expectNoTake(t, &b)
	expectNoDrop(t, &b, always)
	b.Rewind()
	expectPut(t, &b, api.Term{}, api.ErrTerm)
	expectPut(t, &b, whole(1), api.ErrLimit)
	expectAll(t, &b)
}
