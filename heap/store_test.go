package heap_test

import (
	"math"
	"math/rand"
	"slices"
	"strings"
	"testing"

	"exitwave/api"
	"exitwave/heap"
	"exitwave/word"
)

func TestP401New(t *testing.T) {
	for _, most := range []int{0, -1, 1<<24 + 1, 1 << 25, 1 << 32, 1<<32 + 1, math.MinInt, math.MaxInt} {
		if h, e := heap.New(most, word.NewAtoms()); h != nil || e != api.ErrArg {
			t.Errorf("P401 New(%d): %v, %v; want nil, arg", most, h, e)
		}
	}
	for _, most := range []int{1, 2, 1<<24 - 1, 1 << 24} {
		h := made(t, most, word.NewAtoms())
		expectWords(t, h)
	}
}

// A heap of one word has room for the tuple without elements, and for what has no words.
func TestP401One(t *testing.T) {
	h := made(t, 1, word.NewAtoms())
	expectStored(t, h, float(1), 0, api.ErrLimit)
	expectStored(t, h, tuple(), wBox(0), api.OK)
	expectStored(t, h, tuple(), 0, api.ErrLimit)
	expectStored(t, h, list(), wNil, api.OK)
	expectStored(t, h, atom("a"), wAtom(0), api.OK)
	expectStored(t, h, whole(-1), wInt(-1), api.OK)
	expectWords(t, h, head(api.KTuple, 0))
}

func TestP401Most(t *testing.T) {
	h := made(t, 1<<24, word.NewAtoms())
	x := tuple(times(1<<16-1, whole(7))...)
	for i := range 256 {
		expectStored(t, h, x, wBox(i<<16), api.OK)
	}
	if h.Used() != 1<<24 {
		t.Fatalf("P401: used %d", h.Used())
	}
	if w, e := h.Store(tuple()); w != 0 || e != api.ErrLimit || h.Used() != 1<<24 {
		t.Errorf("P401 Store in a full heap: %#x, %v", w, e)
	}
	last := wBox(255 << 16)
	if n, e := h.Live([]word.Word{last, wBox(0)}); n != 1<<17 || e != api.OK {
		t.Errorf("P405 Live: %d, %v", n, e)
	}
	told, e := h.Collect([]word.Word{last})
	if e != api.OK || !slices.Equal(told, []word.Word{wBox(0)}) || h.Used() != 1<<16 {
		t.Errorf("P405 Collect: %x, %v, used %d", told, e, h.Used())
	}
	expectLoad(t, h, wBox(0), x)
}

// Heaps number atoms by those that they were given, alone or together.
func TestP401Atoms(t *testing.T) {
	atoms := word.NewAtoms()
	atoms.Number("z")
	a, b, c := made(t, 9, atoms), made(t, 9, atoms), made(t, 9, word.NewAtoms())
	expectStored(t, a, atom("x"), wAtom(1), api.OK)
	expectStored(t, b, atom("y"), wAtom(2), api.OK)
	expectStored(t, b, atom("x"), wAtom(1), api.OK)
	expectStored(t, a, tuple(atom("z"), atom("y")), wBox(0), api.OK)
	expectStored(t, c, atom("y"), wAtom(0), api.OK)
	expectWords(t, a, head(api.KTuple, 2), wAtom(0), wAtom(2))
	expectLoad(t, a, wAtom(2), atom("y"))
	expectNone(t, c, wAtom(1))
	if atoms.Len() != 3 {
		t.Errorf("P401: %d atoms; want 3", atoms.Len())
	}
	atoms.Number("later")
	expectLoad(t, a, wAtom(3), atom("later"))
}

// expectStored holds Store against the word and the error that are asked for; what is refused changes nothing.
func expectStored(t *testing.T, h *heap.Heap, x api.Term, want word.Word, wantE api.Errno) {
	t.Helper()
	before := h.Used()
	if w, e := h.Store(x); w != want || e != wantE {
		t.Errorf("P402 Store(%s): %#x, %v; want %#x, %v", said(x), w, e, want, wantE)
	}
	if wantE != api.OK && h.Used() != before {
		t.Errorf("P5 Store(%s) was refused, but laid words", said(x))
	}
}

func TestP402Kinds(t *testing.T) {
	for _, c := range []struct {
		x     api.Term
		w     word.Word
		words []word.Word
	}{
		{whole(0), 0x1, nil}, {whole(-1), 0xfffffffffffffff1, nil}, {whole(api.MinInt), 0x8000000000000001, nil}, {whole(api.MaxInt), 0x7ffffffffffffff1, nil},
		{atom("a"), 0x2, nil}, {pid(0), 0x3, nil}, {pid(1 << 40), 0x100000000003, nil}, {list(), 0x4, nil},
		{float(1.5), 0x5, []word.Word{0x127, 0x3ff8000000000000}}, {float(minus), 0x5, []word.Word{0x127, 1 << 63}},
		{ref(0), 0x5, []word.Word{0x147, 0}}, {ref(1 << 40), 0x5, []word.Word{0x147, 1 << 40}},
		{fun(0), 0x5, []word.Word{0x057, 0}}, {fun(api.MaxNodes), 0x5, []word.Word{0x057, 16384}},
		{fun(7, whole(1), atom("")), 0x5, []word.Word{0x257, 7, 0x11, 0x2}},
		{tuple(), 0x5, []word.Word{0x077}}, {tuple(whole(1), list()), 0x5, []word.Word{0x277, 0x11, 0x4}},
		{list(whole(1)), 0x6, []word.Word{0x11, 0x4}}, {list(list(), list()), 0x6, []word.Word{0x4, 0x26, 0x4, 0x4}},
		{tuple(tuple(), list(whole(1))), 0x5, []word.Word{0x277, 0x35, 0x46, 0x077, 0x11, 0x4}},
		{fun(1, fun(2, tuple())), 0x5, []word.Word{0x157, 1, 0x35, 0x157, 2, 0x65, 0x077}},
	} {
		h := made(t, 100, word.NewAtoms())
		expectStored(t, h, c.x, c.w, api.OK)
		expectWords(t, h, c.words...)
		expectLoad(t, h, c.w, c.x)
	}
}

// Own words come first, those of the elements behind them, each with all that is in it.
func TestP402Order(t *testing.T) {
	h := made(t, 100, word.NewAtoms())
	expectStored(t, h, tuple(), wBox(0), api.OK)
	expectStored(t, h, list(tuple(float(1), whole(5)), whole(6), list(ref(7))), wCons(1), api.OK)
	expectWords(t, h,
		head(api.KTuple, 0),
		wBox(7), wCons(3), wInt(6), wCons(5), wCons(12), wNil,
		head(api.KTuple, 2), wBox(10), wInt(5),
		head(api.KFloat, 1), 0x3ff0000000000000,
		wBox(14), wNil,
		head(api.KRef, 1), 7)
}

// Atoms are numbered as they stand in the term.
func TestP402Atoms(t *testing.T) {
	atoms := word.NewAtoms()
	h := made(t, 100, atoms)
	store(t, h, tuple(atom("a"), tuple(atom("b"), list(atom("c"))), atom("d"), fun(1, atom("e")), atom("a")))
	for n, s := range []string{"a", "b", "c", "d", "e"} {
		if got, is := atoms.Text(n); got != s || !is {
			t.Errorf("P402 Text(%d): %q; want %q", n, got, s)
		}
	}
}

// expectLaid stores terms one behind the other, and holds the words against the oracle's.
func expectLaid(t *testing.T, h *heap.Heap, atoms *word.Atoms, l []api.Term) {
	t.Helper()
	want := wordsIn(h)
	for _, x := range l {
		wantW, all := layOut(x, len(want), func(s string) int {
			n, _ := atoms.Number(s)
			return n
		})
		if w := store(t, h, x); w != wantW {
			t.Fatalf("P402 Store(%s): %#x; want %#x", said(x), w, wantW)
		}
		if len(all) != wordsOf(x) || h.Used() != len(want)+wordsOf(x) {
			t.Fatalf("P407 Store(%s): used %d; was %d, and the term has %d words", said(x), h.Used(), len(want), wordsOf(x))
		}
		want = append(want, all...)
	}
	if got := wordsIn(h); !slices.Equal(got, want) {
		t.Fatalf("P402 Store(%s): %s; want %s", said(l), said(got), said(want))
	}
}

func TestP402Laid(t *testing.T) {
	atoms := word.NewAtoms()
	h := made(t, 1<<20, atoms)
	expectLaid(t, h, atoms, rights())
	expectLaid(t, h, atoms, rights())
	r := rand.New(rand.NewSource(402))
	for range 300 {
		atoms := word.NewAtoms()
		h := made(t, 1<<20, atoms)
		var l []api.Term
		for range r.Intn(10) {
			l = append(l, somehow(r, 4))
		}
		expectLaid(t, h, atoms, l)
		expectLaid(t, h, atoms, l)
	}
}

// A term that just fits, and one of one word more.
func TestP402Fits(t *testing.T) {
	for _, x := range rights() {
		n := wordsOf(x)
		for _, ahead := range []int{0, 1, 5} {
			if n+ahead == 0 {
				continue
			}
			h := made(t, n+ahead, word.NewAtoms())
			for range ahead {
				store(t, h, tuple())
			}
			if w, e := h.Store(x); w == 0 || e != api.OK || h.Used() != n+ahead {
				t.Errorf("P402 Store of %d words behind %d of %d: %#x, %v", n, ahead, n+ahead, w, e)
			}
			if n == 0 || n+ahead == 1 {
				continue
			}
			h = made(t, n+ahead-1, word.NewAtoms())
			for range ahead {
				store(t, h, tuple())
			}
			expectStored(t, h, x, 0, api.ErrLimit)
		}
	}
}

// What is refused has numbered no atoms, either.
func TestP402Refused(t *testing.T) {
	wrong := api.Term{Kind: api.KAtom, S: "new", N: 1}
	long := atom(strings.Repeat("x", 65))
	for _, c := range []struct {
		x api.Term
		e api.Errno
	}{
		{api.Term{}, api.ErrTerm}, {api.Term{Kind: 9}, api.ErrTerm}, {wrong, api.ErrTerm}, {long, api.ErrTerm},
		{whole(api.MaxInt + 1), api.ErrTerm}, {whole(api.MinInt - 1), api.ErrTerm}, {float(math.NaN()), api.ErrTerm}, {float(math.Inf(-1)), api.ErrTerm},
		{ref(-1), api.ErrTerm}, {ref(1<<40 + 1), api.ErrTerm}, {pid(1<<40 + 1), api.ErrTerm}, {fun(api.MaxNodes + 1), api.ErrTerm}, {fun(-1), api.ErrTerm},
		{api.Term{Kind: api.KInt, F: minus}, api.ErrTerm}, {api.Term{Kind: api.KPid, L: []api.Term{whole(1)}}, api.ErrTerm},
		{list(atom("new"), long), api.ErrTerm}, {tuple(atom("new"), tuple(wrong)), api.ErrTerm}, {fun(1, atom("new"), float(1), long), api.ErrTerm},
		{tuple(times(1<<15, tuple(long))...), api.ErrLimit}, // beyond Check's own limit, which it tells first
		{nested(api.KList, 200, atom("new")), api.ErrLimit}, {nested(api.KTuple, 300, long), api.ErrLimit}, {list(times(1<<15+1, atom("new"))...), api.ErrLimit},
		{tuple(atom("new"), whole(1), whole(2)), api.ErrLimit}, {list(atom("new"), atom("newer")), api.ErrLimit}, {tuple(atom("new"), float(1)), api.ErrLimit},
	} {
		atoms := word.NewAtoms()
		h := made(t, 6, atoms)
		store(t, h, tuple(float(1), atom("old")))
		before := wordsIn(h)
		expectStored(t, h, c.x, 0, c.e)
		expectWords(t, h, before...)
		if atoms.Len() != 1 {
			t.Errorf("P5 Store(%s) was refused, but numbered atoms", said(c.x))
		}
		expectStored(t, h, tuple(), wBox(5), api.OK)
		expectStored(t, h, c.x, 0, c.e)
		expectLoad(t, h, wBox(0), tuple(float(1), atom("old")))
	}
}

// What was handed in is not kept, nor is what was answered (P2).
func TestP2StoreLoad(t *testing.T) {
	h := made(t, 100, word.NewAtoms())
	given := make([]api.Term, 0, 8)
	given = append(given, list(whole(1), whole(2)), float(3))
	w := store(t, h, api.Term{Kind: api.KTuple, L: given})
	if !alike(tuple(given...), tuple(list(whole(1), whole(2)), float(3))) || !alike(tuple(given[:8]...), tuple(append(slices.Clone(given), make([]api.Term, 6)...)...)) {
		t.Errorf("P2 Store changed what was handed in: %v", given[:8])
	}
	given[0].L[0], given[1] = atom("other"), atom("other")
	want := tuple(list(whole(1), whole(2)), float(3))
	expectLoad(t, h, w, want)
	x := load(t, h, w)
	x.L[0].L[1], x.L[1] = atom("other"), atom("other")
	_ = append(x.L[0].L, atom("other"))
	expectLoad(t, h, w, want)
}

// Two heaps have nothing in common but atoms (P7).
func TestP7Heaps(t *testing.T) {
	atoms := word.NewAtoms()
	a, b := made(t, 10, atoms), made(t, 10, atoms)
	w := store(t, a, float(1))
	expectNone(t, b, w)
	store(t, b, ref(1))
	expectLoad(t, a, w, float(1))
	expectLoad(t, b, w, ref(1))
	b.Collect(nil)
	expectLoad(t, a, w, float(1))
}

// A Heap that New did not make has no room, and panics no more than others (P1).
func TestP1ZeroHeap(t *testing.T) {
	var h, g heap.Heap
	expectStored(t, &h, tuple(), 0, api.ErrLimit)
	expectStored(t, &h, atom("a"), wAtom(0), api.OK)
	expectLoad(t, &h, wAtom(0), atom("a"))
	expectNone(t, &g, wAtom(0))
	expectNone(t, &g, wBox(0))
	if l, e := g.Collect(nil); len(l) != 0 || e != api.OK {
		t.Errorf("P405 Collect of no roots: %x, %v", l, e)
	}
}

func TestP404(t *testing.T) {
	h := made(t, 100, word.NewAtoms())
	places := []int{-1, 0, 1, 2, 3, 4, math.MinInt, math.MaxInt, 1 << 32}
	for _, x := range []api.Term{whole(1), list(), float(2), tuple(whole(3))} {
		store(t, h, x)
		for _, n := range places {
			w, is := h.At(n)
			if is != (n >= 0 && n < h.Used()) || !is && w != 0 {
				t.Errorf("P404 At(%d) of %d: %#x, %v", n, h.Used(), w, is)
			}
		}
	}
	for n, want := range []word.Word{head(api.KFloat, 1), 0x4000000000000000, head(api.KTuple, 1), wInt(3)} {
		if w, is := h.At(n); w != want || !is {
			t.Errorf("P404 At(%d): %#x, %v; want %#x", n, w, is, want)
		}
	}
	if h.Used() != 4 {
		t.Errorf("P404 Used: %d; want 4", h.Used())
	}
}
