package exits_test

import (
	"fmt"
	"math"
	"slices"
	"strings"
	"testing"

	"exitwave/api"
	"exitwave/exits"
)

const far = 1 << 40 // the highest number of a process, of a reference

var minus = math.Copysign(0, -1)

func whole(n int64) api.Term { return api.Term{Kind: api.KInt, N: n} }

func float(f float64) api.Term { return api.Term{Kind: api.KFloat, F: f} }

func atom(s string) api.Term { return api.Term{Kind: api.KAtom, S: s} }

func ref(n int) api.Term { return api.Term{Kind: api.KRef, N: int64(n)} }

func pid(n int) api.Term { return api.Term{Kind: api.KPid, N: int64(n)} }

func fun(n int64, l ...api.Term) api.Term { return api.Term{Kind: api.KFun, N: n, L: l} }

func tuple(l ...api.Term) api.Term { return api.Term{Kind: api.KTuple, L: l} }

func list(l ...api.Term) api.Term { return api.Term{Kind: api.KList, L: l} }

// nested is t inside so many more of a kind.
func nested(kind, n int, t api.Term) api.Term {
	for range n {
		t = api.Term{Kind: kind, L: []api.Term{t}}
	}
	return t
}

func times(n int, t api.Term) []api.Term { return slices.Repeat([]api.Term{t}, n) }

// deep is nested that deep, without words but for those of its lists.
func deep(n int) api.Term { return nested(api.KList, n-1, list()) }

// wide has that many words.
func wide(words int) api.Term { return tuple(times(words-1, whole(1))...) }

// endless is a term that has itself as an element.
func endless(kind int) api.Term {
	l := make([]api.Term, 1)
	l[0] = api.Term{Kind: kind, L: l}
	return l[0]
}

// words and depth say W3 and W2 once more.
func words(t api.Term) int {
	own := 0
	switch t.Kind {
	case api.KFloat, api.KRef:
		own = 2
	case api.KTuple:
		own = 1 + len(t.L)
	case api.KList:
		own = 2 * len(t.L)
	case api.KFun:
		own = 2 + len(t.L)
	}
	for _, x := range t.L {
		own += words(x)
	}
	return own
}

func depth(t api.Term) int {
	most := 0
	for _, x := range t.L {
		most = max(most, depth(x))
	}
	return most + 1
}

// within tells whether what is made of right terms is right.
func within(t api.Term) bool { return words(t) <= api.MaxWords && depth(t) <= api.MaxDepth }

// said is the front of what something looks like: of a term no more than a few lists, since it may have no end.
func said(what any) string {
	switch x := what.(type) {
	case api.Term:
		what = front(x, 5)
	case api.Signal:
		x.Term = front(x.Term, 5)
		what = x
	case exits.Outcome:
		x.Term = front(x.Term, 5)
		what = x
	}
	s := fmt.Sprintf("%+v", what)
	return s[:min(len(s), 300)]
}

func front(t api.Term, depth int) api.Term {
	var l []api.Term
	for _, x := range t.L[:min(len(t.L), depth)] {
		l = append(l, front(x, depth-1))
	}
	t.L = l
	return t
}

// alikeTerm tells whether two terms are the same, field by field, floats by their bits; no list and an empty one are the same.
func alikeTerm(a, b api.Term) bool {
	return a.Kind == b.Kind && a.N == b.N && math.Float64bits(a.F) == math.Float64bits(b.F) && a.S == b.S && slices.EqualFunc(a.L, b.L, alikeTerm)
}

func alike(a, b api.Signal) bool {
	return a.From == b.From && a.To == b.To && a.Kind == b.Kind && a.Id == b.Id && a.Ref == b.Ref && a.Link == b.Link && a.Name == b.Name && alikeTerm(a.Term, b.Term)
}

func alikeOutcome(a, b exits.Outcome) bool { return a.Kind == b.Kind && alikeTerm(a.Term, b.Term) }

// copied is t in memory of its own, with spare room behind each list, in which marks stand.
func copied(t api.Term) api.Term {
	if t.L == nil {
		return t
	}
	l := make([]api.Term, 0, len(t.L)+2)
	for _, x := range t.L {
		l = append(l, copied(x))
	}
	t.L = append(l, whole(77), atom("room"))[:len(l)]
	return t
}

// roomStands tells whether the marks that copied set still stand in the spare room of each list.
func roomStands(t api.Term) bool {
	if t.L == nil {
		return true
	}
	room := t.L[len(t.L):cap(t.L)]
	return len(room) >= 2 && alikeTerm(room[0], whole(77)) && alikeTerm(room[1], atom("room")) && !slices.ContainsFunc(t.L, func(x api.Term) bool { return !roomStands(x) })
}

// spoilt writes over each list of t, its spare room too.
func spoilt(t api.Term) {
	for _, x := range t.L {
		spoilt(x)
	}
	for i := range t.L[:cap(t.L)] {
		t.L[:cap(t.L)][i] = whole(-666)
	}
}

// smalls: right terms that fit into any message, with the edges of all kinds and what looks like a reason among them.
func smalls() []api.Term {
	return []api.Term{
		whole(0), whole(-1), whole(api.MaxInt), whole(api.MinInt),
		float(0), float(minus), float(1.5), float(math.MaxFloat64),
		atom(""), atom("a"), atom("\x00\xff"), atom(strings.Repeat("x", api.MaxAtom)),
		ref(0), ref(far), fun(0), fun(api.MaxNodes), fun(3, atom("c"), float(1), list(whole(1))), pid(0), pid(far),
		tuple(), tuple(whole(1)), tuple(tuple(), list(), fun(1)),
		list(), list(whole(1)), list(list(whole(1), float(2)), tuple(whole(3)), list()),
		{Kind: api.KList, L: []api.Term{}},
		atom("normal"), atom("kill"), atom("killed"), atom("noproc"), atom("Normal"), atom("normal "), atom("kil"), atom("kills"), atom("system_limit"), atom("heap_limit"),
		tuple(atom("normal")), tuple(atom("kill")), list(atom("normal")), list(atom("kill")), fun(1, atom("kill")), tuple(atom("nocatch"), atom("normal")), tuple(atom("EXIT"), pid(3), atom("normal")),
	}
}

// bounds: right terms at the limits or near them, which may not fit into a message.
func bounds() []api.Term {
	l := []api.Term{
		nested(api.KTuple, api.MaxDepth-1, atom("a")), nested(api.KFun, api.MaxDepth-2, whole(1)), list(times(1<<15, whole(1))...), list(times(1<<14, float(1))...),
	}
	for less := range 12 {
		l = append(l, wide(api.MaxWords-less))
	}
	for less := range 3 {
		l = append(l, deep(api.MaxDepth-less))
	}
	return l
}

func rights() []api.Term { return slices.Concat(smalls(), bounds()) }

// wrongs: terms that are not right, some of them above a limit.
func wrongs() []api.Term {
	return []api.Term{
		{}, {L: []api.Term{}}, {N: 1}, {F: 1}, {S: "normal"}, {L: []api.Term{{}}},
		{Kind: 9}, {Kind: -1}, {Kind: math.MaxInt}, {Kind: math.MinInt}, {Kind: 9, S: "kill"},
		whole(api.MaxInt + 1), whole(api.MinInt - 1), float(math.NaN()), float(math.Inf(1)), float(math.Inf(-1)),
		atom(strings.Repeat("x", api.MaxAtom+1)), ref(-1), ref(far + 1), pid(-1), pid(far + 1), fun(-1), fun(api.MaxNodes + 1),
		{Kind: api.KInt, S: "a"}, {Kind: api.KAtom, S: "normal", N: 1}, {Kind: api.KAtom, S: "kill", F: minus}, {Kind: api.KAtom, S: "kill", L: times(1, whole(1))}, {Kind: api.KTuple, N: 1}, {Kind: api.KList, S: "a"},
		tuple(api.Term{}), list(whole(1), float(math.NaN())), fun(1, tuple(atom(strings.Repeat("x", api.MaxAtom+1)))),
		deep(api.MaxDepth + 1), nested(api.KTuple, api.MaxDepth, whole(1)), nested(0, 40000, whole(1)),
		wide(api.MaxWords + 1), list(times(1<<15+1, whole(1))...),
	}
}

// loops: terms without an end, which only a call that asks whether they are right is handed.
func loops() []api.Term {
	return []api.Term{endless(api.KList), endless(api.KTuple), endless(api.KInt), endless(0), endless(9)}
}

// kinds are api's.
var kinds = []int{api.SMessage, api.SLink, api.SUnlink, api.SUnlinkAck, api.SExit, api.SMonitor, api.SDemonitor, api.SDown}

// plain is a signal of a kind that may be.
func plain(kind, from, to int) api.Signal {
	s := api.Signal{From: from, To: to, Kind: kind}
	switch kind {
	case api.SMessage:
		s.Term = tuple(atom("m"), list(whole(1), float(2)))
	case api.SUnlink, api.SUnlinkAck:
		s.Id = 5
	case api.SExit:
		s.Term, s.Link = tuple(atom("why"), list(whole(3))), true
	case api.SMonitor:
		s.Ref, s.Name = 6, "name"
	case api.SDemonitor:
		s.Ref = 7
	case api.SDown:
		s.Ref, s.Term = 8, list(atom("reason"))
	}
	return s
}

func exitOf(from, to int, link bool, reason api.Term) api.Signal {
	return api.Signal{From: from, To: to, Kind: api.SExit, Link: link, Term: reason}
}

func downOf(from, to, ref int, reason api.Term) api.Signal {
	return api.Signal{From: from, To: to, Kind: api.SDown, Ref: ref, Term: reason}
}

// refused are signals of a kind that ether.Check refuses, by the error that it answers.
func refused(kind int) map[api.Errno][]api.Signal {
	with := func(change func(*api.Signal)) api.Signal {
		s := plain(kind, 3, 1)
		change(&s)
		return s
	}
	l := map[api.Errno][]api.Signal{api.ErrArg: {
		with(func(s *api.Signal) { s.From = -1 }),
		with(func(s *api.Signal) { s.From = far + 1 }),
		with(func(s *api.Signal) { s.To = 0 }),
		with(func(s *api.Signal) { s.To = -1 }),
		with(func(s *api.Signal) { s.To = far + 1 }),
		with(func(s *api.Signal) { s.Id = -1 }),
		with(func(s *api.Signal) { s.Ref = -1 }),
		with(func(s *api.Signal) { s.From, s.Term = -1, api.Term{N: 1} }),
	}}
	if kind != api.SExit {
		l[api.ErrArg] = append(l[api.ErrArg], with(func(s *api.Signal) { s.Link = true }))
	}
	if kind != api.SMonitor {
		l[api.ErrArg] = append(l[api.ErrArg], with(func(s *api.Signal) { s.Name = "n" }))
	}
	hasTerm := kind == api.SMessage || kind == api.SExit || kind == api.SDown
	for _, x := range slices.Concat(wrongs(), loops()) {
		if hasTerm || !alikeTerm(x, api.Term{}) {
			l[api.ErrTerm] = append(l[api.ErrTerm], with(func(s *api.Signal) { s.Term = x }), with(func(s *api.Signal) { s.Term, s.Id = x, -1 }))
		}
	}
	return l
}

// others are signals that are right and of another kind than one.
func others(kind int) []api.Signal {
	var l []api.Signal
	for _, k := range kinds {
		if k != kind {
			l = append(l, plain(k, 3, 1), plain(k, 1, 1), plain(k, 0, 1), plain(k, far, far))
		}
	}
	return l
}

func expectReason(t *testing.T, class int, x, want api.Term, err api.Errno) {
	t.Helper()
	if r, e := exits.Reason(class, x); e != err || !alikeTerm(r, want) {
		t.Errorf("P1601 Reason(%d, %s): %s, %v; want %s, %v", class, said(x), said(r), e, said(want), err)
	}
}

func expectAct(t *testing.T, s api.Signal, trap bool, want exits.Outcome, err api.Errno) {
	t.Helper()
	if x, e := exits.Act(s, trap); e != err || !alikeOutcome(x, want) {
		t.Errorf("P1602 Act(%s, %v): %s, %v; want %s, %v", said(s), trap, said(x), e, said(want), err)
	}
}

func expectDown(t *testing.T, s api.Signal, m api.Mon, want exits.Outcome, err api.Errno) {
	t.Helper()
	if x, e := exits.Down(s, m); e != err || !alikeOutcome(x, want) {
		t.Errorf("P1603 Down(%s, %s): %s, %v; want %s, %v", said(s), said(m), said(x), e, said(want), err)
	}
}

// expectDead, expectEmit, expectLeave want a signal, or a zero one, where nothing is told.
func expectDead(t *testing.T, s, want api.Signal) {
	t.Helper()
	if x, is := exits.Dead(s); !alike(x, want) || is != (want.Kind != 0) {
		t.Errorf("P1604 Dead(%s): %s, %v; want %s", said(s), said(x), is, said(want))
	}
}

func expectEmit(t *testing.T, self int, reason api.Term, h api.Half, want api.Signal) {
	t.Helper()
	if x, is := exits.Emit(self, reason, h); !alike(x, want) || is != (want.Kind != 0) {
		t.Errorf("P1605 Emit(%d, %s, %v): %s, %v; want %s", self, said(reason), h, said(x), is, said(want))
	}
}

func expectTell(t *testing.T, self int, reason api.Term, m api.Mon, want api.Signal) {
	t.Helper()
	if x := exits.Tell(self, reason, m); !alike(x, want) {
		t.Errorf("P1605 Tell(%d, %s, %v): %s; want %s", self, said(reason), m, said(x), said(want))
	}
}

func expectLeave(t *testing.T, self int, m api.Mon, want api.Signal) {
	t.Helper()
	if x, is := exits.Leave(self, m); !alike(x, want) || is != (want.Kind != 0) {
		t.Errorf("P1605 Leave(%d, %v): %s, %v; want %s", self, m, said(x), is, said(want))
	}
}

func messageOf(t api.Term) exits.Outcome { return exits.Outcome{Kind: exits.Message, Term: t} }

func endsWith(t api.Term) exits.Outcome { return exits.Outcome{Kind: exits.Ends, Term: t} }
