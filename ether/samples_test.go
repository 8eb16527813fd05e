package ether_test

import (
	"fmt"
	"math"
	"math/rand"
	"slices"
	"strings"
	"testing"

	"exitwave/api"
	"exitwave/ether"
)

const far = 1 << 40 // the highest number of a process, of a reference

var minus = math.Copysign(0, -1)

func whole(n int64) api.Term { return api.Term{Kind: api.KInt, N: n} }

func float(f float64) api.Term { return api.Term{Kind: api.KFloat, F: f} }

func atom(s string) api.Term { return api.Term{Kind: api.KAtom, S: s} }

func ref(n int64) api.Term { return api.Term{Kind: api.KRef, N: n} }

func pid(n int64) api.Term { return api.Term{Kind: api.KPid, N: n} }

func fun(n int64, l ...api.Term) api.Term { return api.Term{Kind: api.KFun, N: n, L: l} }

func tuple(l ...api.Term) api.Term { return api.Term{Kind: api.KTuple, L: l} }

func list(l ...api.Term) api.Term { return api.Term{Kind: api.KList, L: l} }

// nested is t inside so many more of a kind.
func nested(kind, n int, t api.Term) api.Term {
	for range n {
		t = api.Term{Kind: kind, L: []api.Term{t}}
	}
	return t
}

func times(n int, t api.Term) []api.Term { return slices.Repeat([]api.Term{t}, n) }

// endless is a term that has itself as an element.
func endless(kind int) api.Term {
	l := make([]api.Term, 1)
	l[0] = api.Term{Kind: kind, L: l}
	return l[0]
}

// message is a SMessage, which tells of itself by a number.
func message(from, to int, n int64) api.Signal {
	return api.Signal{From: from, To: to, Kind: api.SMessage, Term: whole(n)}
}

// said is the front of what something looks like.
func said(what any) string {
	s := fmt.Sprintf("%+v", what)
	return s[:min(len(s), 300)]
}

// alikeTerm tells whether two terms are the same, field by field, floats by their bits; no list and an empty one are the same.
func alikeTerm(a, b api.Term) bool {
	return a.Kind == b.Kind && a.N == b.N && math.Float64bits(a.F) == math.Float64bits(b.F) && a.S == b.S && slices.EqualFunc(a.L, b.L, alikeTerm)
}

func alike(a, b api.Signal) bool {
	return a.From == b.From && a.To == b.To && a.Kind == b.Kind && a.Id == b.Id && a.Ref == b.Ref && a.Link == b.Link && a.Name == b.Name && alikeTerm(a.Term, b.Term)
}

func alikeAll(a, b []api.Signal) bool { return slices.EqualFunc(a, b, alike) }

func alikeLane(a, b api.Lane) bool {
	return a.From == b.From && a.To == b.To && alikeAll(a.Signals, b.Signals)
}

// copied is t in memory of its own, with spare room behind each list, in which marks stand.
func copied(t api.Term) api.Term {
	if t.L == nil {
		return t
	}
	l := make([]api.Term, 0, len(t.L)+2)
	for _, x := range t.L {
		l = append(l, copied(x))
	}
	t.L = append(l, whole(77), atom("room"))[:len(l)]
	return t
}

func copiedSignal(s api.Signal) api.Signal {
	s.Term = copied(s.Term)
	return s
}

// roomStands tells whether the marks that copied set still stand in the spare room of each list.
func roomStands(t api.Term) bool {
	if t.L == nil {
		return true
	}
	room := t.L[len(t.L):cap(t.L)]
	return len(room) >= 2 && alikeTerm(room[0], whole(77)) && alikeTerm(room[1], atom("room")) && !slices.ContainsFunc(t.L, func(x api.Term) bool { return !roomStands(x) })
}

// spoilt writes over each list of t, its spare room too.
func spoilt(t api.Term) {
	for _, x := range t.L {
		spoilt(x)
	}
	for i := range t.L[:cap(t.L)] {
		t.L[:cap(t.L)][i] = whole(-666)
	}
}

// rights: right terms, with the edges of all kinds among them.
func rights() []api.Term {
	return []api.Term{
		whole(0), whole(1), whole(-1), whole(api.MaxInt), whole(api.MinInt),
		float(0), float(minus), float(1.5), float(math.MaxFloat64), float(math.SmallestNonzeroFloat64),
		atom(""), atom("a"), atom("\x00\xff"), atom(strings.Repeat("x", api.MaxAtom)),
		ref(0), ref(far), fun(0), fun(api.MaxNodes), fun(3, atom("c"), float(1), list(whole(1))), pid(0), pid(far),
		tuple(), tuple(whole(1)), tuple(tuple(), list(), fun(1)),
		list(), list(whole(1)), list(list(whole(1), float(2)), tuple(whole(3)), list()),
		{Kind: api.KInt, N: 1, L: []api.Term{}}, {Kind: api.KList, L: []api.Term{}},
		nested(api.KList, api.MaxDepth-1, whole(1)), list(times(1<<15, whole(1))...), tuple(times(1<<16-1, atom("h"))...),
	}
}

// wrongs: terms that are neither right nor zero, some of them above a limit.
func wrongs() []api.Term {
	return []api.Term{
		{N: 1}, {N: -1}, {F: 1}, {F: minus}, {F: math.NaN()}, {S: "a"}, {S: "\x00"}, {L: []api.Term{{}}}, {L: times(1, whole(1))},
		{Kind: 9}, {Kind: -1}, {Kind: math.MaxInt}, {Kind: math.MinInt}, {Kind: 9, L: times(1, whole(1))},
		whole(api.MaxInt + 1), whole(api.MinInt - 1), float(math.NaN()), float(math.Inf(1)), float(math.Inf(-1)),
		atom(strings.Repeat("x", api.MaxAtom+1)), ref(-1), ref(far + 1), pid(-1), pid(far + 1), fun(-1), fun(api.MaxNodes + 1),
		{Kind: api.KInt, S: "a"}, {Kind: api.KInt, F: minus}, {Kind: api.KAtom, N: 1}, {Kind: api.KPid, L: times(1, whole(1))}, {Kind: api.KTuple, N: 1}, {Kind: api.KList, S: "a"},
		tuple(api.Term{}), list(whole(1), float(math.NaN())), fun(1, tuple(atom(strings.Repeat("x", api.MaxAtom+1)))),
		nested(api.KList, api.MaxDepth, whole(1)), nested(api.KTuple, api.MaxDepth, whole(1)), nested(0, 40000, whole(1)),
		list(times(1<<15+1, whole(1))...), tuple(times(1<<16, whole(1))...), tuple(times(1<<16, api.Term{})...),
		endless(api.KList), endless(api.KTuple), endless(api.KInt), endless(0), endless(9),
	}
}

// zeros: terms that are zero; no list and an empty one are the same, whatever room that has.
func zeros() []api.Term {
	return []api.Term{{}, {L: []api.Term{}}, {L: times(3, whole(1))[:0]}}
}

// kinds are api's.
var kinds = []int{api.SMessage, api.SLink, api.SUnlink, api.SUnlinkAck, api.SExit, api.SMonitor, api.SDemonitor, api.SDown}

// plain is a signal of a kind that may be.
func plain(kind, from, to int) api.Signal {
	s := api.Signal{From: from, To: to, Kind: kind}
	switch kind {
	case api.SMessage:
		s.Term = tuple(atom("m"), list(whole(1), float(2)))
	case api.SUnlink, api.SUnlinkAck:
		s.Id = 5
	case api.SExit:
		s.Term, s.Link = tuple(atom("why"), list(whole(3))), true
	case api.SMonitor:
		s.Ref, s.Name = 6, "name"
	case api.SDemonitor:
		s.Ref = 7
	case api.SDown:
		s.Ref, s.Term = 8, list(atom("reason"))
	}
	return s
}

// someSignal makes one by chance between few processes, its number n told by whatever its kind has.
func someSignal(r *rand.Rand, few, n int) api.Signal {
	s := plain(kinds[r.Intn(len(kinds))], r.Intn(few+1), 1+r.Intn(few))
	if s.Id != 0 {
		s.Id = n
	}
	if s.Ref != 0 {
		s.Ref = n
	}
	if s.Term.Kind != 0 {
		s.Term = tuple(whole(int64(n)), s.Term)
	}
	return s
}

// put lays signals down that may be.
func put(t *testing.T, e *ether.Ether, l ...api.Signal) {
	t.Helper()
	for _, s := range l {
		if err := e.Put(s); err != api.OK {
			t.Fatalf("P1102 Put(%s): %v", said(s), err)
		}
	}
}

// filled is an ether with these signals.
func filled(t *testing.T, l ...api.Signal) *ether.Ether {
	t.Helper()
	e := ether.New()
	put(t, e, l...)
	return e
}

func expectTake(t *testing.T, e *ether.Ether, from, to int, want api.Signal) {
	t.Helper()
	if s, is := e.Take(from, to); !is || !alike(s, want) {
		t.Errorf("P1102 Take(%d, %d): %s, %v; want %s", from, to, said(s), is, said(want))
	}
}

func expectPeek(t *testing.T, e *ether.Ether, from, to int, want api.Signal) {
	t.Helper()
	if s, is := e.Peek(from, to); !is || !alike(s, want) {
		t.Errorf("P1102 Peek(%d, %d): %s, %v; want %s", from, to, said(s), is, said(want))
	}
}

// expectNone: a lane that has no signals.
func expectNone(t *testing.T, e *ether.Ether, from, to int) {
	t.Helper()
	if s, is := e.Take(from, to); is || !alike(s, api.Signal{}) {
		t.Errorf("P1102 Take(%d, %d): %s, %v; want none", from, to, said(s), is)
	}
	if s, is := e.Peek(from, to); is || !alike(s, api.Signal{}) {
		t.Errorf("P1102 Peek(%d, %d): %s, %v; want none", from, to, said(s), is)
	}
	if n := e.Len(from, to); n != 0 {
		t.Errorf("P1102 Len(%d, %d): %d; want 0", from, to, n)
	}
	if slices.Contains(e.Ready(to), from) {
		t.Errorf("P1103 Ready(%d): %v; want it without %d", to, e.Ready(to), from)
	}
}

func expectReady(t *testing.T, e *ether.Ether, to int, want ...int) {
	t.Helper()
	if l := e.Ready(to); !slices.Equal(l, want) {
		t.Errorf("P1103 Ready(%d): %s; want %s", to, said(l), said(want))
	}
}

func expectLanes(t *testing.T, e *ether.Ether, want ...api.Lane) {
	t.Helper()
	if l := e.Lanes(); !slices.EqualFunc(l, want, alikeLane) {
		t.Errorf("P1103 Lanes: %s; want %s", said(l), said(want))
	}
}

// expectAll holds the whole of an ether against what must lie in it, in the order in which it was put.
func expectAll(t *testing.T, e *ether.Ether, want ...api.Signal) {
	t.Helper()
	if n := e.All(); n != len(want) {
		t.Errorf("P1102 All: %d; want %d", n, len(want))
	}
	expectLanes(t, e, lanesOf(want)...)
}

// lanesOf says P1103 once more: lanes of signals that were put in this order.
func lanesOf(l []api.Signal) []api.Lane {
	var told []api.Lane
	for _, s := range l {
		n := slices.IndexFunc(told, func(x api.Lane) bool { return x.From == s.From && x.To == s.To })
		if n < 0 {
			n = len(told)
			told = append(told, api.Lane{From: s.From, To: s.To})
		}
		told[n].Signals = append(told[n].Signals, s)
	}
	slices.SortFunc(told, func(a, b api.Lane) int {
		if a.From != b.From {
			return a.From - b.From
		}
		return a.To - b.To
	})
	return told
}
