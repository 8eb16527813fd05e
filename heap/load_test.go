package heap_test

import (
	"math"
	"math/rand"
	"slices"
	"testing"

	"exitwave/api"
	"exitwave/heap"
	"exitwave/word"
)

func TestP403Stored(t *testing.T) {
	h := made(t, 1<<24, word.NewAtoms())
	var roots []word.Word
	for _, x := range rights() {
		roots = append(roots, store(t, h, x))
	}
	for i, x := range rights() {
		expectLoad(t, h, roots[i], x)
	}
}

func TestP403Tags(t *testing.T) {
	h := byHand(t, head(api.KTuple, 0), wInt(1), wNil)
	for tag := range word.Word(16) {
		if tag < 1 || tag > 6 {
			for _, body := range []int64{0, 1, 2, 3, 16, 1 << 40, 1 << 59, -1} {
				expectNone(t, h, tagged(tag, body))
			}
		}
	}
	expectNone(t, h, head(api.KTuple, 0))
}

func TestP403NotRight(t *testing.T) {
	h := byHand(t, head(api.KTuple, 0), wInt(1), wNil)
	for _, w := range []word.Word{
		tagged(4, 1), tagged(4, -1), tagged(4, 1<<59),
		wAtom(1<<40 + 1), wAtom(-1), wAtom(1 << 59), wPid(1<<40 + 1), wPid(-1), wPid(1 << 59),
		tagged(5, 1<<40+1), tagged(5, -1), tagged(5, 1<<59), tagged(6, 1<<40+1), tagged(6, -1), tagged(6, 1<<59),
	} {
		expectNone(t, h, w)
	}
	expectLoad(t, h, wPid(1<<40), pid(1<<40))
	expectLoad(t, h, wInt(api.MinInt), whole(api.MinInt))
	expectLoad(t, h, wInt(api.MaxInt), whole(api.MaxInt))
	expectLoad(t, h, wNil, list())
}

func TestP403Atoms(t *testing.T) {
	h := byHand(t, head(api.KTuple, 1), wAtom(2), head(api.KTuple, 1), wAtom(1))
	expectLoad(t, h, wAtom(0), atom("a"))
	expectLoad(t, h, wAtom(1), atom("b"))
	expectNone(t, h, wAtom(2))
	expectNone(t, h, wAtom(1<<40))
	expectNone(t, h, wBox(0))
	expectLoad(t, h, wBox(2), tuple(atom("b")))
	expectStored(t, h, atom("c"), wAtom(2), api.OK)
	expectLoad(t, h, wBox(0), tuple(atom("c")))
}

func TestP403Beyond(t *testing.T) {
	h := byHand(t, wInt(1), wNil, head(api.KTuple, 0), wNil)
	expectLoad(t, h, wCons(0), list(whole(1)))
	expectLoad(t, h, wBox(2), tuple())
	for _, n := range []int{4, 5, 100, 1 << 24, 1 << 32, 1<<32 + 2, 1 << 40} {
		expectNone(t, h, wBox(n))
		expectNone(t, h, wCons(n))
	}
	expectNone(t, h, wCons(3)) // its second word is beyond
	expectNone(t, made(t, 1, word.NewAtoms()), wBox(0))
	expectNone(t, made(t, 1, word.NewAtoms()), wCons(0))
	for _, c := range [][]word.Word{
		{head(api.KTuple, 1)}, {head(api.KTuple, 2), wNil}, {head(api.KTuple, 65536), wNil},
		{head(api.KFloat, 1)}, {head(api.KRef, 1)}, {head(api.KFun, 0)}, {head(api.KFun, 1), 0}, {head(api.KFun, 2), 0, wNil},
		{wInt(1)}, {wNil},
	} {
		h := byHand(t, c...)
		expectNone(t, h, wBox(0))
		expectNone(t, h, wCons(0))
	}
}

func TestP403NoBlock(t *testing.T) {
	for _, w := range []word.Word{
		0, wNil, wInt(0), wInt(1), wAtom(0), wPid(0), wBox(0), wBox(1), wCons(0), wCons(1), tagged(8, 0), tagged(8, 0x27), tagged(9, 0), math.MaxUint64,
		head(0, 1), head(api.KInt, 1), head(api.KAtom, 1), head(api.KPid, 1), head(api.KList, 1), head(9, 1), head(15, 1),
		head(api.KTuple, 65537), head(api.KFloat, 0), head(api.KFloat, 2), head(api.KFloat, 65536), head(api.KRef, 0), head(api.KRef, 2), head(api.KFun, 65537),
		tagged(7, -1), tagged(7, 1<<59|0x12), tagged(7, 1<<59|0x17),
	} {
		expectNone(t, byHand(t, w, 0x4, 0x4, 0x4), wBox(0))
	}
}

// Numbers without a tag that no right term has.
func TestP403Untagged(t *testing.T) {
	for _, c := range []struct {
		kind, size int
		w          word.Word
		want       api.Term
	}{
		{api.KFloat, 1, 0, float(0)}, {api.KFloat, 1, 1 << 63, float(minus)}, {api.KFloat, 1, 0x7fefffffffffffff, float(math.MaxFloat64)}, {api.KFloat, 1, wBox(0), bits(uint64(wBox(0)))},
		{api.KFloat, 1, 0x7ff0000000000000, api.Term{}}, {api.KFloat, 1, 0xfff0000000000000, api.Term{}}, {api.KFloat, 1, 0x7ff0000000000001, api.Term{}}, {api.KFloat, 1, 0x7ff8000000000001, api.Term{}}, {api.KFloat, 1, math.MaxUint64, api.Term{}},
		{api.KRef, 1, 0, ref(0)}, {api.KRef, 1, 1 << 40, ref(1 << 40)}, {api.KRef, 1, 1<<40 + 1, api.Term{}}, {api.KRef, 1, 1 << 63, api.Term{}}, {api.KRef, 1, math.MaxUint64, api.Term{}},
		{api.KFun, 0, 0, fun(0)}, {api.KFun, 0, 16384, fun(16384)}, {api.KFun, 0, 16385, api.Term{}}, {api.KFun, 0, 1 << 63, api.Term{}}, {api.KFun, 0, math.MaxUint64, api.Term{}},
		{api.KFun, 1, 16384, fun(16384, list())}, {api.KFun, 1, 16385, api.Term{}},
	} {
		h := byHand(t, head(c.kind, c.size), c.w, wNil)
		if c.want.Kind == 0 {
			expectNone(t, h, wBox(0))
		} else {
			expectLoad(t, h, wBox(0), c.want)
		}
	}
}

// A word that is none, wherever among those of a term it stands.
func TestP403Inside(t *testing.T) {
	for _, bad := range []word.Word{0, tagged(4, 1), wAtom(2), wPid(1<<40 + 1), wBox(100), wCons(100), head(api.KTuple, 0), tagged(8, 0), tagged(15, 0)} {
		for _, c := range []struct {
			w     word.Word
			words []word.Word
		}{
			{wBox(0), []word.Word{head(api.KTuple, 3), wNil, wNil, wNil}},
			{wBox(0), []word.Word{head(api.KFun, 2), 7, wNil, wNil}},
			{wCons(0), []word.Word{wInt(1), wCons(2), wInt(2), wCons(4), wInt(3), wNil}},
			{wBox(0), []word.Word{head(api.KTuple, 2), wBox(3), wCons(5), head(api.KTuple, 1), wNil, wNil, wCons(7), wInt(1), wNil}},
		} {
			if _, e := byHand(t, c.words...).Load(c.w); e != api.OK {
				t.Fatalf("P403 Load(%#x) of %x: %v", c.w, c.words, e)
			}
			for i := range c.words {
				if i == 1 && c.words[0] == head(api.KFun, 2) {
					continue // N, which has no tag
				}
				l := slices.Clone(c.words)
				if l[i] = bad; i == 0 && bad.Tag() == word.Head {
					l[i] = head(api.KInt, 0)
				}
				if i == 3 && c.words[2] == wCons(5) && bad == head(api.KTuple, 0) {
					continue // the tuple inside is one without elements then
				}
				expectNone(t, byHand(t, l...), c.w)
			}
		}
	}
}

// The rest of a list is a list.
func TestP403Rest(t *testing.T) {
	for _, rest := range []word.Word{wInt(0), wAtom(0), wPid(0), wBox(2), tagged(4, 1), wCons(3), wCons(100), head(api.KTuple, 0), 0} {
		expectNone(t, byHand(t, wInt(1), rest, head(api.KTuple, 0), wNil), wCons(0))
	}
	expectLoad(t, byHand(t, wInt(1), wCons(3), head(api.KTuple, 0), wInt(2), wNil), wCons(0), list(whole(1), whole(2)))
}

// Words that point into themselves, or in a circle, say no term.
func TestP403Circles(t *testing.T) {
	for _, c := range []struct {
		w     word.Word
		words []word.Word
	}{
		{wBox(0), []word.Word{head(api.KTuple, 1), wBox(0)}},
		{wBox(0), []word.Word{head(api.KTuple, 3), wBox(0), wBox(0), wBox(0)}},
		{wBox(0), []word.Word{head(api.KTuple, 2), wNil, wBox(3), head(api.KTuple, 1), wBox(0)}},
		{wBox(0), []word.Word{head(api.KFun, 1), 0, wBox(0)}},
		{wBox(0), []word.Word{head(api.KFun, 2), 0, wNil, wCons(4), wBox(0), wNil}},
		{wCons(0), []word.Word{wCons(0), wNil}},
		{wCons(0), []word.Word{wCons(0), wCons(0)}},
		{wCons(0), []word.Word{wNil, wCons(0)}},
		{wCons(0), []word.Word{wInt(1), wCons(2), wInt(2), wCons(4), wInt(3), wCons(0)}},
		{wCons(0), []word.Word{wInt(1), wCons(1), wNil}},
		{wCons(1), []word.Word{wInt(1), wCons(1), wNil}},
		{wCons(0), []word.Word{wBox(2), wNil, head(api.KTuple, 1), wCons(0)}},
	} {
		expectNone(t, byHand(t, c.words...), c.w)
	}
}

// Also what Store lays can be pointed into, so that a float's bits point back to where they stand.
func TestP403StoredCircle(t *testing.T) {
	h := made(t, 100, word.NewAtoms())
	store(t, h, bits(uint64(wCons(1))))
	store(t, h, list(list()))
	expectWords(t, h, head(api.KFloat, 1), wCons(1), wNil, wNil)
	expectNone(t, h, wCons(1))
	expectLoad(t, h, wBox(0), bits(uint64(wCons(1))))
	g := made(t, 100, word.NewAtoms())
	store(t, g, fun(int64(head(api.KTuple, 1)), whole(5)))
	expectLoad(t, g, wBox(1), tuple(whole(5)))
}

// chain is words of a kind, each nested in the one ahead of it, so many times, with a word innermost.
func chain(kind, n int, last word.Word) (word.Word, []word.Word) {
	var l []word.Word
	link := map[int]func(next word.Word) (word.Word, []word.Word){
		api.KTuple: func(next word.Word) (word.Word, []word.Word) {
			return wBox(len(l)), []word.Word{head(api.KTuple, 1), next}
		},
		api.KFun: func(next word.Word) (word.Word, []word.Word) {
			return wBox(len(l)), []word.Word{head(api.KFun, 1), 9, next}
		},
		api.KList: func(next word.Word) (word.Word, []word.Word) {
			return wCons(len(l)), []word.Word{next, wNil}
		},
	}[kind]
	for range n {
		w, own := link(last)
		last, l = w, append(l, own...)
	}
	return last, l
}

func TestP403Deep(t *testing.T) {
	for _, kind := range []int{api.KTuple, api.KFun, api.KList} {
		n := int64(0)
		if kind == api.KFun {
			n = 9
		}
		for _, deep := range []int{1, 2, 198, 199, 200, 201, 1000, 5000} {
			w, l := chain(kind, deep, wInt(1))
			h := byHand(t, l...)
			if deep >= 200 {
				expectNone(t, h, w)
				continue
			}
			want := whole(1)
			for range deep {
				want = api.Term{Kind: kind, N: n, L: []api.Term{want}}
			}
			expectLoad(t, h, w, want)
		}
	}
	for _, c := range []struct {
		last  word.Word
		inner api.Term
		words []word.Word
	}{
		{wBox(398), tuple(), []word.Word{head(api.KTuple, 0)}},
		{wBox(398), float(0), []word.Word{head(api.KFloat, 1), 0}},
		{wBox(398), fun(0), []word.Word{head(api.KFun, 0), 0}},
		{wNil, list(), nil},
	} {
		w, l := chain(api.KTuple, 199, c.last)
		expectLoad(t, byHand(t, append(l, c.words...)...), w, nested(api.KTuple, 199, c.inner))
	}
}

// The rest of a list is nested no deeper than the list.
func TestP403Long(t *testing.T) {
	l := list(times(300, whole(1))...)
	h := made(t, 1<<16, word.NewAtoms())
	expectLoad(t, h, store(t, h, nested(api.KTuple, 198, l)), nested(api.KTuple, 198, l))
}

// row of a list of so many, and of a tuple of so many.
func longList(n int) []word.Word {
	var l []word.Word
	for i := range n {
		l = append(l, wInt(int64(i)), wCons(2*i+2))
	}
	l[len(l)-1] = wNil
	return l
}

func longTuple(n int) []word.Word {
	return append([]word.Word{head(api.KTuple, n)}, slices.Repeat([]word.Word{wInt(1)}, n)...)
}

func TestP403Words(t *testing.T) {
	h := byHand(t, longList(1<<15)...)
	if x := load(t, h, wCons(0)); len(x.L) != 1<<15 || x.L[1<<15-1].N != 1<<15-1 {
		t.Errorf("P403: %d elements", len(x.L))
	}
	h = byHand(t, longList(1<<15+1)...)
	expectNone(t, h, wCons(0))
	if x := load(t, h, wCons(2)); len(x.L) != 1<<15 || x.L[0].N != 1 {
		t.Errorf("P403: %d elements", len(x.L))
	}
	expectLoad(t, byHand(t, longTuple(1<<16-1)...), wBox(0), tuple(times(1<<16-1, whole(1))...))
	expectNone(t, byHand(t, longTuple(1<<16)...), wBox(0))
	expectNone(t, byHand(t, append([]word.Word{head(api.KFun, 1<<16-1), 0}, slices.Repeat([]word.Word{wNil}, 1<<16)...)...), wBox(0))
	expectLoad(t, byHand(t, append([]word.Word{head(api.KFun, 1<<16-2), 0}, slices.Repeat([]word.Word{wNil}, 1<<16)...)...), wBox(0), fun(0, times(1<<16-2, list())...))
}

// Words that are shared count as often as they stand in the term.
func TestP403Shared(t *testing.T) {
	n := 1<<15 - 2 // of {X, X}: 1 + 2, and 2 * (1 + n), is 1 << 16 + 1
	shared := append([]word.Word{head(api.KTuple, 2), wBox(3), wBox(3), head(api.KTuple, n)}, slices.Repeat([]word.Word{wNil}, n)...)
	expectNone(t, byHand(t, shared...), wBox(0))
	shared[3] = head(api.KTuple, n-1)
	x := tuple(times(n-1, list())...)
	expectLoad(t, byHand(t, shared...), wBox(0), tuple(x, x))
	double := []word.Word{head(api.KTuple, 0)}
	for i := range 150 {
		double = append(double, head(api.KTuple, 2), wBox(max(0, 3*i-2)), wBox(max(0, 3*i-2)))
	}
	for i := range 150 {
		h := byHand(t, double...)
		if i > 13 { // 8 << i - 3 words
			expectNone(t, h, wBox(1+3*i))
		} else if x := load(t, h, wBox(1+3*i)); wordsOf(x) != 8<<i-3 {
			t.Errorf("P403 %d times two: %d words", i+1, wordsOf(x))
		}
	}
}

// No two lists of one answer share memory, even where the words of their terms are shared (P2).
func TestP2Shared(t *testing.T) {
	h := byHand(t, head(api.KTuple, 3), wCons(4), wCons(4), wCons(6), wInt(1), wCons(6), wInt(2), wNil)
	want := tuple(list(whole(1), whole(2)), list(whole(1), whole(2)), list(whole(2)))
	x := load(t, h, wBox(0))
	x.L[0].L[0], x.L[0].L[1] = atom("x"), atom("x")
	_ = append(x.L[2].L, atom("x"))
	_ = append(x.L[:1], atom("x"))
	if !alike(x, tuple(list(atom("x"), atom("x")), atom("x"), list(whole(2)))) {
		t.Errorf("P2: %v", x)
	}
	x = load(t, h, wBox(0))
	x.L[1].L[0], x.L[1].L[1] = atom("x"), atom("x")
	if !alike(x, tuple(list(whole(1), whole(2)), list(atom("x"), atom("x")), list(whole(2)))) {
		t.Errorf("P2: %v", x)
	}
	expectLoad(t, h, wBox(0), want)
}

// anyWords is a row by chance, of words that are often such as may stand there.
func anyWords(r *rand.Rand) []word.Word {
	l := make([]word.Word, 1+r.Intn(24))
	for i := range l {
		ahead := min(i+1+r.Intn(6), len(l)+1) // most point ahead, so that not all is a circle
		switch r.Intn(12) {
		case 0:
			l[i] = wInt(int64(r.Intn(3)))
		case 1:
			l[i] = wAtom(int64(r.Intn(6)))
		case 2, 3:
			l[i] = wBox(ahead)
		case 4, 5:
			l[i] = wCons(ahead)
		case 6, 7, 8:
			l[i] = head([]int{api.KFloat, api.KRef, api.KFun, api.KTuple, api.KTuple}[r.Intn(5)], r.Intn(4))
		case 9:
			l[i] = tagged(word.Word(r.Intn(16)), int64(r.Intn(len(l))))
		default:
			l[i] = wNil
		}
	}
	return l
}

// anyRow is a heap with such a row, and the same for the oracle.
func anyRow(t *testing.T, r *rand.Rand) (*heap.Heap, row) {
	l := anyWords(r)
	return byHand(t, l...), row{words: l, texts: []string{"a", "b"}}
}

func TestP403ByChance(t *testing.T) {
	r := rand.New(rand.NewSource(403))
	right := 0
	for range 3000 {
		h, o := anyRow(t, r)
		probes := slices.Clone(o.words)
		for n := range len(o.words) + 1 {
			probes = append(probes, wBox(n), wCons(n))
		}
		for _, w := range probes {
			want, is := o.read(w)
			got, e := h.Load(w)
			if is != (e == api.OK) || !is && e != api.ErrTerm || !alike(got, want) {
				t.Fatalf("P403 Load(%#x) of %x: %s, %v; want %s, %v", w, o.words, said(got), e, said(want), is)
			}
			if is && w.Tag() >= word.Box {
				right++
			}
		}
	}
	if right < 3000 {
		t.Errorf("only %d of the words tried are such as point to terms", right)
	}
}
