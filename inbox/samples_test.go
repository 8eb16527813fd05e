package inbox_test

import (
	"fmt"
	"math"
	"slices"
	"strings"
	"testing"

	"exitwave/api"
	"exitwave/inbox"
)

const (
	far  = 1 << 40 // the highest number of a process, of a reference
	wide = 1 << 24 // the most words that a box may have
)

var minus = math.Copysign(0, -1)

func whole(n int64) api.Term { return api.Term{Kind: api.KInt, N: n} }

func float(f float64) api.Term { return api.Term{Kind: api.KFloat, F: f} }

func atom(s string) api.Term { return api.Term{Kind: api.KAtom, S: s} }

func ref(n int64) api.Term { return api.Term{Kind: api.KRef, N: n} }

func pid(n int64) api.Term { return api.Term{Kind: api.KPid, N: n} }

func fun(n int64, l ...api.Term) api.Term { return api.Term{Kind: api.KFun, N: n, L: l} }

func tuple(l ...api.Term) api.Term { return api.Term{Kind: api.KTuple, L: l} }

func list(l ...api.Term) api.Term { return api.Term{Kind: api.KList, L: l} }

// nested is t inside so many more of a kind.
func nested(kind, n int, t api.Term) api.Term {
	for range n {
		t = api.Term{Kind: kind, L: []api.Term{t}}
	}
	return t
}

func times(n int, t api.Term) []api.Term { return slices.Repeat([]api.Term{t}, n) }

// endless is a term that has itself as an element.
func endless(kind int) api.Term {
	l := make([]api.Term, 1)
	l[0] = api.Term{Kind: kind, L: l}
	return l[0]
}

// sized is a tuple of just so many words (1 or more).
func sized(words int) api.Term { return tuple(times(words-1, whole(7))...) }

// atoms are those of one letter each.
func atoms(letters string) []api.Term {
	var l []api.Term
	for _, s := range strings.Split(letters, "") {
		l = append(l, atom(s))
	}
	return l
}

// weighed is a right term with what a message of it counts, by hand.
type weighed struct {
	term  api.Term
	words int
}

// rights: right terms, with the edges of all kinds among them.
func rights() []weighed {
	return []weighed{
		{whole(0), 2}, {whole(-1), 2}, {whole(api.MaxInt), 2}, {whole(api.MinInt), 2},
		{float(0), 4}, {float(minus), 4}, {float(math.MaxFloat64), 4}, {float(math.SmallestNonzeroFloat64), 4},
		{atom(""), 2}, {atom("a"), 2}, {atom("\x00\xff"), 2}, {atom(strings.Repeat("x", api.MaxAtom)), 2},
		{ref(0), 4}, {ref(far), 4}, {pid(0), 2}, {pid(far), 2},
		{fun(0), 4}, {fun(api.MaxNodes), 4}, {fun(3, atom("c"), float(1), list(whole(1))), 11},
		{tuple(), 3}, {tuple(whole(1)), 4}, {tuple(tuple(), list(), fun(1)), 9}, {tuple(atom("a"), list(whole(1), float(2))), 11},
		{list(), 2}, {list(whole(1)), 4}, {list(list(whole(1), float(2)), tuple(whole(3)), list()), 16},
		{api.Term{Kind: api.KInt, N: 1, L: []api.Term{}}, 2}, {api.Term{Kind: api.KList, L: []api.Term{}}, 2},
		{nested(api.KList, api.MaxDepth-1, whole(1)), 400}, {nested(api.KTuple, api.MaxDepth-1, whole(1)), 400},
		{list(times(1<<15, whole(1))...), 1<<16 + 2}, {sized(1 << 16), 1<<16 + 2},
	}
}

// wrongs: terms that are not right, and above no limit.
func wrongs() []api.Term {
	return []api.Term{
		{}, {L: []api.Term{}}, {N: 1}, {F: 1}, {F: minus}, {S: "a"}, {L: times(1, whole(1))},
		{Kind: 9}, {Kind: -1}, {Kind: math.MaxInt}, {Kind: math.MinInt}, {Kind: 9, L: times(1, whole(1))},
		whole(api.MaxInt + 1), whole(api.MinInt - 1), float(math.NaN()), float(math.Inf(1)), float(math.Inf(-1)),
		atom(strings.Repeat("x", api.MaxAtom+1)), ref(-1), ref(far + 1), pid(-1), pid(far + 1), fun(-1), fun(api.MaxNodes + 1),
		{Kind: api.KInt, S: "a"}, {Kind: api.KInt, F: minus}, {Kind: api.KAtom, N: 1}, {Kind: api.KPid, L: times(1, whole(1))}, {Kind: api.KTuple, N: 1}, {Kind: api.KList, S: "a"},
		tuple(api.Term{}), list(whole(1), float(math.NaN())), fun(1, tuple(atom(strings.Repeat("x", api.MaxAtom+1)))),
	}
}

// greats: terms above a limit, some of them not right otherwise, too.
func greats() []api.Term {
	return []api.Term{
		nested(api.KList, api.MaxDepth, whole(1)), nested(api.KTuple, api.MaxDepth, whole(1)), nested(api.KFun, api.MaxDepth, whole(1)), nested(0, 40000, whole(1)),
		list(times(1<<15+1, whole(1))...), sized(1<<16 + 1), tuple(times(1<<16, api.Term{})...), fun(1, times(1<<16-1, whole(1))...),
		endless(api.KList), endless(api.KTuple), endless(api.KInt), endless(0), endless(9),
	}
}

// said is the front of what something looks like.
func said(what any) string {
	s := fmt.Sprintf("%+v", what)
	return s[:min(len(s), 300)]
}

// alike tells whether two terms are the same, field by field, floats by their bits; no list and an empty one are the same.
func alike(a, b api.Term) bool {
	return a.Kind == b.Kind && a.N == b.N && math.Float64bits(a.F) == math.Float64bits(b.F) && a.S == b.S && slices.EqualFunc(a.L, b.L, alike)
}

func alikeAll(a, b []api.Term) bool { return slices.EqualFunc(a, b, alike) }

// is tells of a term whether it is x.
func is(x api.Term) func(api.Term) bool {
	return func(y api.Term) bool { return alike(x, y) }
}

func never(api.Term) bool { return false }

func always(api.Term) bool { return true }

// made is a box for so many words.
func made(t *testing.T, words int) *inbox.Box {
	t.Helper()
	b, e := inbox.New(words)
	if e != api.OK || b == nil {
		t.Fatalf("P1201 New(%d): %v, %v", words, b, e)
	}
	return b
}

func put(t *testing.T, b *inbox.Box, l ...api.Term) {
	t.Helper()
	for _, x := range l {
		if e := b.Put(x); e != api.OK {
			t.Fatalf("P1201 Put(%s): %v", said(x), e)
		}
	}
}

// filled is a wide box with these messages, of which some were looked at.
func filled(t *testing.T, looked int, l ...api.Term) *inbox.Box {
	t.Helper()
	b := made(t, wide)
	put(t, b, l...)
	expectNext(t, b, l[:looked]...)
	return b
}

func expectPut(t *testing.T, b *inbox.Box, x api.Term, want api.Errno) {
	t.Helper()
	if e := b.Put(x); e != want {
		t.Errorf("P1201 Put(%s): %v; want %v", said(x), e, want)
	}
}

// expectNext: the messages that are looked at next, one behind the other.
func expectNext(t *testing.T, b *inbox.Box, want ...api.Term) {
	t.Helper()
	for _, w := range want {
		if x, there := b.Next(); !there || !alike(x, w) {
			t.Errorf("P1202 Next: %s, %v; want %s", said(x), there, said(w))
		}
	}
}

func expectNoNext(t *testing.T, b *inbox.Box) {
	t.Helper()
	if x, there := b.Next(); there || !alike(x, api.Term{}) {
		t.Errorf("P1202 Next: %s, %v; want none", said(x), there)
	}
}

func expectTake(t *testing.T, b *inbox.Box, want api.Term) {
	t.Helper()
	if x, e := b.Take(); e != api.OK || !alike(x, want) {
		t.Errorf("P1202 Take: %s, %v; want %s", said(x), e, said(want))
	}
}

func expectNoTake(t *testing.T, b *inbox.Box) {
	t.Helper()
	if x, e := b.Take(); e != api.ErrNone || !alike(x, api.Term{}) {
		t.Errorf("P1202 Take: %s, %v; want none", said(x), e)
	}
}

func expectDrop(t *testing.T, b *inbox.Box, which func(api.Term) bool, want api.Term) {
	t.Helper()
	if x, there := b.Drop(which); !there || !alike(x, want) {
		t.Errorf("P1203 Drop: %s, %v; want %s", said(x), there, said(want))
	}
}

func expectNoDrop(t *testing.T, b *inbox.Box, which func(api.Term) bool) {
	t.Helper()
	if x, there := b.Drop(which); there || !alike(x, api.Term{}) {
		t.Errorf("P1203 Drop: %s, %v; want none", said(x), there)
	}
}

// expectAll holds all that can be told of the messages, but for the place, against them.
func expectAll(t *testing.T, b *inbox.Box, want ...api.Term) {
	t.Helper()
	if l := told(t, b.All()); !alikeAll(l, want) {
		t.Errorf("P1203 All: %s; want %s", said(l), said(want))
	}
	if n := b.Len(); n != len(want) {
		t.Errorf("P1201 Len: %d; want %d", n, len(want))
	}
	if n := b.Words(); n != counted(want) {
		t.Errorf("P1201 Words: %d; want %d", n, counted(want))
	}
}

// told are the terms of a sequence, whose places must go up from 0.
func told(t *testing.T, seq func(func(int, api.Term) bool)) []api.Term {
	t.Helper()
	var l []api.Term
	for place, x := range seq {
		if place != len(l) {
			t.Errorf("P1203 All: place %d; want %d", place, len(l))
		}
		l = append(l, x)
	}
	return l
}

// counted says once more what messages count.
func counted(l []api.Term) int {
	n := 0
	for _, x := range l {
		n += 2 + wordsOf(x)
	}
	return n
}

// wordsOf says W3 once more.
func wordsOf(x api.Term) int {
	n := 0
	for _, y := range x.L {
		n += wordsOf(y)
	}
	switch x.Kind {
	case api.KFloat, api.KRef:
		n += 2
	case api.KTuple:
		n += 1 + len(x.L)
	case api.KList:
		n += 2 * len(x.L)
	case api.KFun:
		n += 2 + len(x.L)
	}
	return n
}

// expectRest: all that lies behind the place, and nothing more.
func expectRest(t *testing.T, b *inbox.Box, behind ...api.Term) {
	t.Helper()
	expectNext(t, b, behind...)
	expectNoNext(t, b)
}
