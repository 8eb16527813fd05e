package inbox_test

import (
	"testing"

	"exitwave/api"
)

func TestP1202Next(t *testing.T) {
	b := filled(t, 0, atoms("abc")...)
	expectNext(t, b, atoms("abc")...)
	for range 3 {
		expectNoNext(t, b)
	}
	expectAll(t, b, atoms("abc")...)
	put(t, b, atoms("de")...)
	expectNext(t, b, atoms("de")...)
	expectNoNext(t, b)
}

// A box that was empty when it was asked has its place still ahead of what comes.
func TestP1202NextOfNone(t *testing.T) {
	b := made(t, 100)
	expectNoNext(t, b)
	expectNoNext(t, b)
	expectNoTake(t, b)
	put(t, b, atoms("ab")...)
	expectNoTake(t, b)
	expectNext(t, b, atoms("ab")...)
	expectNoNext(t, b)
}

// Take of each message out of boxes of all sizes.
func TestP1202TakeEach(t *testing.T) {
	for size := range 8 {
		for looked := 0; looked <= size; looked++ {
			for past := range 3 {
				all := atoms("abcdefgh")[:size]
				b := filled(t, looked, all...)
				if looked == size {
					for range past {
						expectNoNext(t, b)
					}
				}
				if looked == 0 {
					expectNoTake(t, b)
					expectAll(t, b, all...)
					expectRest(t, b, all...)
					continue
				}
				expectTake(t, b, all[looked-1])
				left := without(all, looked-1)
				expectAll(t, b, left...)
				expectNoTake(t, b)
				expectAll(t, b, left...)
				expectRest(t, b, left...)
			}
		}
	}
}

func without(l []api.Term, n int) []api.Term {
	return append(append([]api.Term{}, l[:n]...), l[n+1:]...)
}

// Take behind Take: one needs a Next of its own.
func TestP1202TakeTwice(t *testing.T) {
	b := filled(t, 2, atoms("abcd")...)
	expectTake(t, b, atom("b"))
	expectNoTake(t, b)
	expectNoTake(t, b)
	expectNext(t, b, atom("a"))
	expectTake(t, b, atom("a"))
	expectNoTake(t, b)
	expectNext(t, b, atoms("cd")...)
	expectNoNext(t, b)
	expectTake(t, b, atom("d"))
	expectAll(t, b, atom("c"))
	put(t, b, atom("e"))
	expectAll(t, b, atoms("ce")...)
	expectNext(t, b, atoms("ce")...)
	expectTake(t, b, atom("e"))
	expectNext(t, b, atom("c"))
	expectTake(t, b, atom("c"))
	expectAll(t, b)
	put(t, b, atom("f"))
	expectNext(t, b, atom("f"))
	expectTake(t, b, atom("f"))
	expectAll(t, b)
}

func TestP1202Rewind(t *testing.T) {
	for looked := range 4 {
		b := filled(t, looked, atoms("abc")...)
		b.Rewind()
		expectNoTake(t, b)
		expectAll(t, b, atoms("abc")...)
		expectNext(t, b, atoms("ab")...)
		b.Rewind()
		b.Rewind()
		expectRest(t, b, atoms("abc")...)
		b.Rewind()
		expectNext(t, b, atom("a"))
		expectTake(t, b, atom("a"))
	}
}

// A message that is put while others are looked at.
func TestP1202PutBetween(t *testing.T) {
	for looked := range 4 {
		b := filled(t, looked, atoms("abc")...)
		put(t, b, atom("d"))
		expectAll(t, b, atoms("abcd")...)
		expectRest(t, b, atoms("abcd")[looked:]...)
		expectTake(t, b, atom("d"))
	}
	b := filled(t, 2, atoms("abc")...)
	put(t, b, atom("d"))
	expectTake(t, b, atom("b"))
	expectRest(t, b, atoms("acd")...)
}

// Messages that are alike are messages each: the one that was looked at goes, no other one.
func TestP1202Alike(t *testing.T) {
	b := filled(t, 3, whole(1), float(1), whole(1), float(1), whole(1))
	expectTake(t, b, whole(1))
	expectAll(t, b, whole(1), float(1), float(1), whole(1))
	expectNext(t, b, whole(1), float(1))
	expectTake(t, b, float(1))
	expectAll(t, b, whole(1), float(1), whole(1))
	expectNext(t, b, whole(1), float(1), whole(1))
	expectTake(t, b, whole(1))
	expectAll(t, b, whole(1), float(1))
}

// Asking changes no place.
func TestP1202Asked(t *testing.T) {
	b := filled(t, 1, atoms("abc")...)
	for range 3 {
		expectAll(t, b, atoms("abc")...)
		expectNoDrop(t, b, never)
	}
	expectNext(t, b, atom("b"))
	expectAll(t, b, atoms("abc")...)
	expectTake(t, b, atom("b"))
}
