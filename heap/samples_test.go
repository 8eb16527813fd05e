package heap_test

import (
	"fmt"
	"math"
	"math/rand"
	"slices"
	"strings"
	"testing"

	"exitwave/api"
	"exitwave/heap"
	"exitwave/word"
)

var minus = math.Copysign(0, -1)

func whole(n int64) api.Term { return api.Term{Kind: api.KInt, N: n} }

func float(f float64) api.Term { return api.Term{Kind: api.KFloat, F: f} }

func bits(u uint64) api.Term { return float(math.Float64frombits(u)) }

func atom(s string) api.Term { return api.Term{Kind: api.KAtom, S: s} }

func ref(n int64) api.Term { return api.Term{Kind: api.KRef, N: n} }

func pid(n int64) api.Term { return api.Term{Kind: api.KPid, N: n} }

func fun(n int64, l ...api.Term) api.Term { return api.Term{Kind: api.KFun, N: n, L: l} }

func tuple(l ...api.Term) api.Term { return api.Term{Kind: api.KTuple, L: l} }

func list(l ...api.Term) api.Term { return api.Term{Kind: api.KList, L: l} }

// nested is t inside so many more of a kind.
func nested(kind, n int, t api.Term) api.Term {
	for range n {
		t = api.Term{Kind: kind, L: []api.Term{t}}
	}
	return t
}

func times(n int, t api.Term) []api.Term { return slices.Repeat([]api.Term{t}, n) }

// Words by hand, reckoned without package word.
func tagged(tag word.Word, body int64) word.Word { return word.Word(uint64(body))*16 + tag }

func wInt(n int64) word.Word { return tagged(1, n) }

func wAtom(n int64) word.Word { return tagged(2, n) }

func wPid(n int64) word.Word { return tagged(3, n) }

const wNil word.Word = 4

func wBox(n int) word.Word { return tagged(5, int64(n)) }

func wCons(n int) word.Word { return tagged(6, int64(n)) }

func head(kind, size int) word.Word { return tagged(7, int64(16*size+kind)) }

// alike tells whether two answers are the same, field by field, floats by their bits; no list and an empty one are the same.
func alike(a, b api.Term) bool {
	return a.Kind == b.Kind && a.N == b.N && math.Float64bits(a.F) == math.Float64bits(b.F) && a.S == b.S && slices.EqualFunc(a.L, b.L, alike)
}

// said is the front of what terms or words look like.
func said(what any) string {
	s := fmt.Sprint(what)
	if l, is := what.([]word.Word); is {
		s = fmt.Sprintf("%x", l)
	}
	return s[:min(len(s), 300)]
}

func made(t *testing.T, most int, atoms *word.Atoms) *heap.Heap {
	t.Helper()
	h, e := heap.New(most, atoms)
	if h == nil || e != api.OK {
		t.Fatalf("P401 New(%d): %v, %v", most, h, e)
	}
	return h
}

// byHand is a heap with these words, and the atoms a, b.
func byHand(t *testing.T, l ...word.Word) *heap.Heap {
	t.Helper()
	atoms := word.NewAtoms()
	atoms.Number("a")
	atoms.Number("b")
	h := made(t, 1<<24, atoms)
	h.Lay(l...)
	return h
}

func store(t *testing.T, h *heap.Heap, x api.Term) word.Word {
	t.Helper()
	w, e := h.Store(x)
	if e != api.OK {
		t.Fatalf("P402 Store: %v", e)
	}
	return w
}

func load(t *testing.T, h *heap.Heap, w word.Word) api.Term {
	t.Helper()
	x, e := h.Load(w)
	if e != api.OK {
		t.Fatalf("P403 Load(%#x): %v", w, e)
	}
	return x
}

func wordsIn(h *heap.Heap) []word.Word {
	var l []word.Word
	for n := range h.Used() {
		w, _ := h.At(n)
		l = append(l, w)
	}
	return l
}

func expectWords(t *testing.T, h *heap.Heap, want ...word.Word) {
	t.Helper()
	if got := wordsIn(h); !slices.Equal(got, want) {
		t.Errorf("words: %s; want %s", said(got), said(want))
	}
}

func expectLoad(t *testing.T, h *heap.Heap, w word.Word, want api.Term) {
	t.Helper()
	if got, e := h.Load(w); e != api.OK || !alike(got, want) {
		t.Errorf("P403 Load(%#x): %s, %v; want %s", w, said(got), e, said(want))
	}
}

// expectNone holds Load, Collect and Live against a word that is none of a term; nothing is changed by them.
func expectNone(t *testing.T, h *heap.Heap, w word.Word) {
	t.Helper()
	before := wordsIn(h)
	if got, e := h.Load(w); e != api.ErrTerm || !alike(got, api.Term{}) {
		t.Errorf("P403 Load(%#x): %s, %v; want term", w, said(got), e)
	}
	expectRefused(t, h, w)
	if !slices.Equal(wordsIn(h), before) {
		t.Errorf("P5 Load(%#x) changed words", w)
	}
}

func expectRefused(t *testing.T, h *heap.Heap, roots ...word.Word) {
	t.Helper()
	before := wordsIn(h)
	if l, e := h.Collect(roots); e != api.ErrTerm || len(l) != 0 {
		t.Errorf("P405 Collect(%s): %s, %v; want term", said(roots), said(l), e)
	}
	if n, e := h.Live(roots); e != api.ErrTerm || n != 0 {
		t.Errorf("P405 Live(%s): %d, %v; want term", said(roots), n, e)
	}
	if !slices.Equal(wordsIn(h), before) {
		t.Errorf("P5 Collect(%s) was refused, but changed words", said(roots))
	}
}

// rights: right terms, with the edges of all kinds among them.
func rights() []api.Term {
	return []api.Term{
		whole(0), whole(1), whole(-1), whole(api.MaxInt), whole(api.MinInt),
		float(0), float(minus), float(1.5), float(math.MaxFloat64), float(math.SmallestNonzeroFloat64), bits(uint64(wBox(0))), bits(uint64(head(api.KTuple, 1))),
		atom(""), atom("a"), atom("b"), atom("\x00\xff"), atom(strings.Repeat("x", api.MaxAtom)),
		ref(0), ref(1), ref(int64(wBox(0))), ref(int64(wCons(0))), ref(1 << 40),
		fun(0), fun(api.MaxNodes), fun(int64(wBox(0)), whole(1)), fun(3, atom("c"), float(1), list(whole(1))),
		pid(0), pid(1), pid(1 << 40),
		tuple(), tuple(whole(1)), tuple(tuple()), tuple(tuple(), list(), fun(1)), tuple(atom("d"), tuple(atom("e"), float(2)), atom("f")),
		list(), list(whole(1)), list(list()), list(list(whole(1), whole(2)), tuple(whole(3)), list(whole(4))), list(float(1), ref(2), fun(3, float(4)), float(5)),
		nested(api.KList, 199, list()), nested(api.KTuple, 199, float(1)), nested(api.KFun, 199, atom("g")),
		list(times(1<<15, whole(1))...), tuple(times(1<<16-1, atom("h"))...), fun(1, times(1<<16-2, pid(1))...), list(times(1<<14, float(1))...),
	}
}

// somehow makes a right term by chance; deep is how much deeper it may be nested.
func somehow(r *rand.Rand, deep int) api.Term {
	kind := 1 + r.Intn(8)
	t := api.Term{Kind: kind}
	switch kind {
	case api.KInt:
		t.N = []int64{0, 1, -1, api.MaxInt, api.MinInt}[r.Intn(5)]
	case api.KFloat:
		t.F = []float64{0, minus, 1, math.Float64frombits(uint64(wCons(r.Intn(20)))), math.Float64frombits(uint64(head(api.KTuple, r.Intn(3))))}[r.Intn(5)]
	case api.KAtom:
		t.S = []string{"", "a", "b", "c", "\xff"}[r.Intn(5)]
	case api.KRef, api.KFun:
		t.N = []int64{0, int64(wBox(r.Intn(20))), int64(wCons(r.Intn(20))), int64(head(api.KFun, r.Intn(3)))}[r.Intn(4)]
	case api.KPid:
		t.N = int64(r.Intn(3))
	}
	if deep > 0 && (kind == api.KFun || kind == api.KTuple || kind == api.KList) {
		for range r.Intn(4) {
			t.L = append(t.L, somehow(r, deep-1))
		}
	}
	return t
}
