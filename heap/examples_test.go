package heap_test

import (
	"slices"
	"testing"

	"exitwave/api"
	"exitwave/heap"
	"exitwave/word"
)

// example1 is the chapter's first example; the second one goes on with its heap, and with the list's word.
func example1(t *testing.T) (*heap.Heap, word.Word) {
	t.Helper()
	h := made(t, 9, word.NewAtoms())
	if w := store(t, h, tuple(atom("a"), float(1.5))); w != wBox(0) {
		t.Errorf("example 1: %#x; want Box 0", w)
	}
	expectWords(t, h, head(api.KTuple, 2), wAtom(0), wBox(3), head(api.KFloat, 1), 0x3ff8000000000000)
	w := store(t, h, list(whole(1), whole(2)))
	if w != wCons(5) || h.Used() != 9 {
		t.Errorf("example 1: %#x, used %d; want Cons 5, 9", w, h.Used())
	}
	expectWords(t, h, head(api.KTuple, 2), wAtom(0), wBox(3), head(api.KFloat, 1), 0x3ff8000000000000, wInt(1), wCons(7), wInt(2), wNil)
	return h, w
}

func TestExample1(t *testing.T) { example1(t) }

func TestExample2(t *testing.T) {
	h, w := example1(t)
	told, e := h.Collect([]word.Word{w})
	if e != api.OK || !slices.Equal(told, []word.Word{wCons(0)}) || h.Used() != 4 {
		t.Errorf("example 2: %x, %v, used %d; want Cons 0, 4", told, e, h.Used())
	}
	expectWords(t, h, wInt(1), wCons(2), wInt(2), wNil)
	expectNone(t, h, wBox(0))
	expectLoad(t, h, told[0], list(whole(1), whole(2)))
}
