package heap_test

import (
	"math/rand"
	"slices"
	"testing"

	"exitwave/api"
	"exitwave/heap"
	"exitwave/word"
)

// expectCollected holds Live and Collect against the roots and the words that are asked for.
func expectCollected(t *testing.T, h *heap.Heap, roots, wantRoots, wantWords []word.Word) {
	t.Helper()
	before, given := wordsIn(h), slices.Clone(roots)
	if n, e := h.Live(roots); n != len(wantWords) || e != api.OK {
		t.Errorf("P405 Live(%s) of %s: %d, %v; want %d", said(roots), said(before), n, e, len(wantWords))
	}
	if !slices.Equal(wordsIn(h), before) {
		t.Errorf("P405 Live(%s) changed words", said(roots))
	}
	told, e := h.Collect(roots)
	if e != api.OK || !slices.Equal(told, wantRoots) {
		t.Errorf("P405 Collect(%s) of %s: %s, %v; want %s", said(given), said(before), said(told), e, said(wantRoots))
	}
	if got := wordsIn(h); !slices.Equal(got, wantWords) {
		t.Errorf("P405 Collect(%s) of %s: words %s; want %s", said(given), said(before), said(got), said(wantWords))
	}
	if !slices.Equal(roots, given) {
		t.Errorf("P2 Collect(%s) changed its roots: %s", said(given), said(roots))
	}
}

func TestP405NoRoots(t *testing.T) {
	for _, roots := range [][]word.Word{nil, {}, {wInt(1)}, {wInt(-1), wAtom(0), wPid(7), wNil, wNil}} {
		h := byHand(t)
		expectCollected(t, h, roots, roots, nil)
		store(t, h, tuple(float(1), list(whole(2))))
		expectCollected(t, h, roots, roots, nil)
		expectNone(t, h, wBox(0))
		expectStored(t, h, tuple(), wBox(0), api.OK)
	}
}

// First the roots' own words are laid, from the first root on, then what hangs on these words, from the first on.
func TestP405Order(t *testing.T) {
	h := made(t, 100, word.NewAtoms())
	store(t, h, float(9))
	a := store(t, h, tuple(tuple(float(1)), list(whole(2), list(whole(3)))))
	store(t, h, list(whole(9)))
	b := store(t, h, list(fun(4, tuple()), ref(5)))
	expectCollected(t, h, []word.Word{b, wInt(7), a}, []word.Word{wCons(0), wInt(7), wBox(2)}, []word.Word{
		wBox(5), wCons(8), // the first pair of b
		head(api.KTuple, 2), wBox(10), wCons(12), // a
		head(api.KFun, 1), 4, wBox(14), // of b's first pair
		wBox(15), wNil, // b's second pair
		head(api.KTuple, 1), wBox(17), // of a
		wInt(2), wCons(19),
		head(api.KTuple, 0),  // of the fun
		head(api.KRef, 1), 5, // of b's second pair
		head(api.KFloat, 1), 0x3ff0000000000000,
		wCons(21), wNil, // a list's second pair
		wInt(3), wNil,
	})
	expectLoad(t, h, wCons(0), list(fun(4, tuple()), ref(5)))
	expectLoad(t, h, wBox(2), tuple(tuple(float(1)), list(whole(2), list(whole(3)))))
}

func TestP405Twice(t *testing.T) {
	h := made(t, 100, word.NewAtoms())
	store(t, h, tuple())
	w := store(t, h, list(whole(1), whole(2)))
	second := wCons(3)
	expectCollected(t, h, []word.Word{w, w, second, w}, []word.Word{wCons(0), wCons(0), wCons(2), wCons(0)}, []word.Word{wInt(1), wCons(2), wInt(2), wNil})
	expectCollected(t, h, []word.Word{wCons(2), wCons(0)}, []word.Word{wCons(0), wCons(2)}, []word.Word{wInt(2), wNil, wInt(1), wCons(0)})
	expectLoad(t, h, wCons(2), list(whole(1), whole(2)))
}

// Roots that share keep sharing; a term that has another one twice has it once in the heap.
func TestP405Shared(t *testing.T) {
	l := []word.Word{head(api.KFloat, 1), 0, head(api.KTuple, 3), wBox(0), wBox(0), wBox(6), head(api.KTuple, 1), wBox(0)}
	want := []word.Word{head(api.KTuple, 3), wBox(4), wBox(4), wBox(6), head(api.KFloat, 1), 0, head(api.KTuple, 1), wBox(4)}
	expectCollected(t, byHand(t, l...), []word.Word{wBox(2)}, []word.Word{wBox(0)}, want)
	expectCollected(t, byHand(t, l...), []word.Word{wBox(2), wBox(6), wBox(0), wBox(2)}, []word.Word{wBox(0), wBox(4), wBox(6), wBox(0)},
		[]word.Word{head(api.KTuple, 3), wBox(6), wBox(6), wBox(4), head(api.KTuple, 1), wBox(6), head(api.KFloat, 1), 0})
}

// Numbers without a tag are not met, whatever their bits look like.
func TestP405Untagged(t *testing.T) {
	h := made(t, 100, word.NewAtoms())
	store(t, h, tuple())
	roots := []word.Word{
		store(t, h, bits(uint64(wBox(0)))), store(t, h, ref(int64(wCons(3)))), store(t, h, fun(int64(wBox(0)), whole(1))),
		store(t, h, bits(uint64(head(api.KTuple, 1)))), store(t, h, ref(int64(head(api.KFun, 2)))), store(t, h, tuple(tuple())),
	}
	expectCollected(t, h, roots, []word.Word{wBox(0), wBox(2), wBox(4), wBox(7), wBox(9), wBox(11)}, []word.Word{
		head(api.KFloat, 1), wBox(0), head(api.KRef, 1), wCons(3), head(api.KFun, 1), wBox(0), wInt(1),
		head(api.KFloat, 1), head(api.KTuple, 1), head(api.KRef, 1), head(api.KFun, 2), head(api.KTuple, 1), wBox(13), head(api.KTuple, 0),
	})
}

// Blocks that overlap are laid each by itself, from the words as they were.
func TestP405Overlap(t *testing.T) {
	l := []word.Word{head(api.KTuple, 3), wBox(4), wNil, wNil, head(api.KTuple, 0)}
	expectCollected(t, byHand(t, l...), []word.Word{wBox(0), wCons(1), wCons(2)}, []word.Word{wBox(0), wCons(4), wCons(6)},
		[]word.Word{head(api.KTuple, 3), wBox(8), wNil, wNil, wBox(8), wNil, wNil, wNil, head(api.KTuple, 0)})
	h := made(t, 100, word.NewAtoms())
	store(t, h, bits(uint64(wCons(3))))
	store(t, h, list(list(whole(1))))
	expectWords(t, h, head(api.KFloat, 1), wCons(3), wCons(4), wNil, wInt(1), wNil)
	expectNone(t, h, wCons(3)) // its rest is no list
	expectNone(t, h, wCons(1)) // so that its element is none
	expectCollected(t, h, []word.Word{wCons(2), wBox(0)}, []word.Word{wCons(0), wBox(2)}, []word.Word{wCons(4), wNil, head(api.KFloat, 1), wCons(3), wInt(1), wNil})
	g := byHand(t, head(api.KRef, 1), wBox(4), wNil, wNil, head(api.KTuple, 0)) // the N of a reference, which is the word of an element, too
	expectCollected(t, g, []word.Word{wBox(0), wCons(1)}, []word.Word{wBox(0), wCons(2)}, []word.Word{head(api.KRef, 1), wBox(4), wBox(4), wNil, head(api.KTuple, 0)})
}

// What Collect lays may be more than there was, where blocks overlap; it is laid as P405 says.
func TestP405Grows(t *testing.T) {
	h := made(t, 3, word.NewAtoms())
	store(t, h, tuple(whole(1), list()))
	expectCollected(t, h, []word.Word{wCons(1), wBox(0)}, []word.Word{wCons(0), wBox(2)}, []word.Word{wInt(1), wNil, head(api.KTuple, 2), wInt(1), wNil})
}

func TestP405Refuses(t *testing.T) {
	h := byHand(t, head(api.KTuple, 1), wInt(1), wNil, wCons(0))
	for _, bad := range []word.Word{0, head(api.KTuple, 1), tagged(8, 0), wBox(1), wBox(4), wCons(0), wCons(2), wCons(3), wAtom(2), tagged(4, 1)} {
		expectRefused(t, h, bad)
		expectRefused(t, h, wBox(0), bad)
		expectRefused(t, h, bad, wBox(0))
		expectRefused(t, h, wInt(1), wBox(0), wCons(1), bad, wNil)
	}
}

// A Box and a Cons that point to one place are held apart: one of them at least is no word of a term.
func TestP405OnePlace(t *testing.T) {
	h := byHand(t, wInt(1), wNil, head(api.KTuple, 0), wNil)
	expectRefused(t, h, wCons(0), wBox(0))
	expectRefused(t, h, wBox(2), wCons(2))
	expectRefused(t, h, wBox(2), wBox(0))
	expectRefused(t, byHand(t, wInt(1), wNil, head(api.KTuple, 2), wCons(0), wBox(0)), wCons(0), wBox(2))
}

// What is right by itself may be too deep, or have too many words, inside what another root says.
func TestP405SharedLimits(t *testing.T) {
	for _, kind := range []int{api.KTuple, api.KFun, api.KList} {
		w, l := chain(kind, 200, wNil)
		inner := l[len(l)-1]
		if kind == api.KList {
			inner = l[len(l)-2]
		}
		h := byHand(t, l...)
		expectNone(t, h, w)
		expectRefused(t, h, inner, w)
		expectRefused(t, h, inner, inner, w, inner)
		if n, e := h.Live([]word.Word{inner, inner}); n != len(l)-len(l)/200 || e != api.OK {
			t.Errorf("P405 Live of what is 200 deep: %d, %v", n, e)
		}
	}
	n := 1<<15 - 2
	shared := append([]word.Word{head(api.KTuple, 2), wBox(3), wBox(3), head(api.KTuple, n)}, slices.Repeat([]word.Word{wNil}, n)...)
	expectRefused(t, byHand(t, shared...), wBox(3), wBox(0))
	shared[3] = head(api.KTuple, n-1)
	if n, e := byHand(t, shared...).Live([]word.Word{wBox(3), wBox(0), wBox(3)}); n != 1<<15+1 || e != api.OK {
		t.Errorf("P405 Live: %d, %v", n, e)
	}
}

// What was gone over inside a great term counts its own words alone in the next one.
func TestP405SharedSmall(t *testing.T) {
	l := []word.Word{head(api.KTuple, 2), wBox(7), wBox(6), head(api.KTuple, 2), wBox(6), wBox(6), head(api.KTuple, 0), head(api.KTuple, 40000)}
	h := byHand(t, append(l, slices.Repeat([]word.Word{wNil}, 40000)...)...)
	if n, e := h.Live([]word.Word{wBox(0), wBox(3)}); n != 40008 || e != api.OK {
		t.Errorf("P405 Live: %d, %v; want 40008", n, e)
	}
}

// All ends of a long list as roots, and one root many times, are no more work than the list.
func TestP405Ends(t *testing.T) {
	h := byHand(t, longList(1<<15)...)
	var roots []word.Word
	for n := range 1 << 15 {
		roots = append(roots, wCons(2*n))
	}
	roots = append(roots, slices.Repeat([]word.Word{wCons(0)}, 1<<18)...)
	if n, e := h.Live(roots); n != 1<<16 || e != api.OK {
		t.Errorf("P405 Live: %d, %v", n, e)
	}
	slices.Reverse(roots)
	told, e := h.Collect(roots)
	if e != api.OK || len(told) != len(roots) || told[0] != wCons(0) || h.Used() != 1<<16 {
		t.Errorf("P405 Collect: %d, %v, used %d", len(told), e, h.Used())
	}
}

func TestP405ByChance(t *testing.T) {
	r := rand.New(rand.NewSource(405))
	good := 0
	for range 4000 {
		h, o := anyRow(t, r)
		var right, wrong []word.Word
		for n := range len(o.words) + 1 {
			for _, w := range []word.Word{wBox(n), wCons(n)} {
				if _, is := o.read(w); is {
					right = append(right, w)
				} else {
					wrong = append(wrong, w)
				}
			}
		}
		var roots []word.Word
		for range min(len(right), 1) * r.Intn(6) {
			roots = append(roots, right[r.Intn(len(right))])
		}
		expectRefused(t, h, append(slices.Clone(roots), wrong[r.Intn(len(wrong))])...)
		wantWords, wantRoots := o.collect(roots)
		expectCollected(t, h, roots, wantRoots, wantWords)
		if len(right) > 1 && len(roots) > 1 {
			good++
		}
	}
	if good < 1000 {
		t.Errorf("only %d rows tried had roots to choose from", good)
	}
}

// A heap that is used for long: terms are stored, kept or let go, and collected.
func TestP406P407Laws(t *testing.T) {
	r := rand.New(rand.NewSource(406))
	for range 200 {
		atoms := word.NewAtoms()
		h := made(t, 400, atoms)
		var roots []word.Word
		var terms []api.Term
		for range 30 {
			x, before := somehow(r, 4), h.Used()
			w, e := h.Store(x)
			if (e == api.OK) != (before+wordsOf(x) <= 400) {
				t.Fatalf("P402 Store of %d behind %d of 400: %v", wordsOf(x), before, e)
			}
			if e == api.OK {
				roots, terms = append(roots, w), append(terms, x)
			}
			if r.Intn(3) > 0 {
				continue
			}
			for n := len(roots) / 2; n > 0; n-- {
				i := r.Intn(len(roots))
				roots, terms = slices.Delete(roots, i, i+1), slices.Delete(terms, i, i+1)
			}
			roots = expectLaws(t, h, roots, terms)
		}
	}
}

// expectLaws collects, and tells the roots then.
func expectLaws(t *testing.T, h *heap.Heap, roots []word.Word, terms []api.Term) []word.Word {
	t.Helper()
	used, sum := h.Used(), 0
	for i, x := range terms {
		expectLoad(t, h, roots[i], x)
		sum += wordsOf(x)
	}
	live, _ := h.Live(roots)
	if twice, e := h.Live(slices.Concat(roots, roots)); twice != live || e != api.OK {
		t.Errorf("P407 Live of the roots twice: %d, %v; once %d", twice, e, live)
	}
	told, e := h.Collect(roots)
	if e != api.OK || h.Used() != live || h.Used() > used || h.Used() != sum {
		t.Fatalf("P406 Collect: %v, used %d; was %d, live %d, and the terms have %d", e, h.Used(), used, live, sum)
	}
	for i, x := range terms {
		expectLoad(t, h, told[i], x)
	}
	if n, e := h.Live(told); n != live || e != api.OK {
		t.Errorf("P406 Live behind Collect: %d, %v; want %d", n, e, live)
	}
	expectCollected(t, h, told, slices.Clone(told), wordsIn(h))
	return told
}

// What Collect told is its own memory (P2), and is told again for the same calls (P3).
func TestP2P3Collect(t *testing.T) {
	a, b := byHand(t, longList(5)...), byHand(t, longList(5)...)
	given := []word.Word{wCons(4), wCons(0), wNil}
	roots := given[:2:3]
	told, _ := a.Collect(roots)
	again, _ := b.Collect(roots)
	if !slices.Equal(told, again) || !slices.Equal(wordsIn(a), wordsIn(b)) {
		t.Errorf("P3 Collect: %x, then %x", told, again)
	}
	before := wordsIn(a)
	told[0], told[1] = 0, 0
	_ = append(told, 99)
	if !slices.Equal(given, []word.Word{wCons(4), wCons(0), wNil}) || !slices.Equal(wordsIn(a), before) {
		t.Errorf("P2 Collect: roots %x, words %x", given, wordsIn(a))
	}
}
