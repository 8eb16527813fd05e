package ether_test

import (
	"math"
	"slices"
	"strings"
	"testing"

	"exitwave/api"
	"exitwave/ether"
)

// expectCheck holds Check against an error; so must Put be, which lays down just what may be (P1102, P5).
func expectCheck(t *testing.T, s api.Signal, want api.Errno) {
	t.Helper()
	if e := ether.Check(s); e != want {
		t.Errorf("P1101 Check(%s): %v; want %v", said(s), e, want)
	}
	e := ether.New()
	if got := e.Put(s); got != want {
		t.Errorf("P1102 Put(%s): %v; want %v", said(s), got, want)
	}
	if want == api.OK {
		expectAll(t, e, s)
		expectTake(t, e, s.From, s.To, s)
	}
	expectNone(t, e, s.From, s.To)
	expectAll(t, e)
}

// has says which kinds have which fields once more.
func has(kind int, field string) bool {
	return strings.Contains(map[int]string{api.SMessage: "Term", api.SUnlink: "Id", api.SUnlinkAck: "Id", api.SExit: "Term Link", api.SMonitor: "Ref Name", api.SDemonitor: "Ref", api.SDown: "Ref Term"}[kind], field)
}

func TestP1101Plain(t *testing.T) {
	for _, kind := range kinds {
		expectCheck(t, plain(kind, 1, 2), api.OK)
		expectCheck(t, plain(kind, 2, 2), api.OK)
	}
}

func TestP1101Ends(t *testing.T) {
	for _, kind := range kinds {
		for _, from := range []int{0, 1, 2, far - 1, far} {
			for _, to := range []int{1, 2, far - 1, far} {
				expectCheck(t, plain(kind, from, to), api.OK)
			}
		}
		for _, n := range []int{-1, far + 1, -far, math.MinInt, math.MaxInt, 1<<41 + 1, -1 << 32} {
			expectCheck(t, plain(kind, n, 1), api.ErrArg)
			expectCheck(t, plain(kind, 1, n), api.ErrArg)
			expectCheck(t, plain(kind, n, n), api.ErrArg)
		}
		expectCheck(t, plain(kind, 1, 0), api.ErrArg)
		expectCheck(t, plain(kind, 0, 0), api.ErrArg)
	}
}

func TestP1101Kinds(t *testing.T) {
	for _, kind := range []int{0, 9, 10, -1, -8, math.MinInt, math.MaxInt, 1<<32 + 1, 256 + 1} {
		for _, as := range kinds {
			s := plain(as, 1, 2)
			s.Kind = kind
			expectCheck(t, s, api.ErrArg)
		}
		expectCheck(t, api.Signal{From: 1, To: 2, Kind: kind}, api.ErrArg)
	}
	expectCheck(t, api.Signal{}, api.ErrArg)
}

// A limit that a term is above is told as ErrTerm, too.
func TestP1101Terms(t *testing.T) {
	for _, kind := range kinds {
		s := plain(kind, 1, 2)
		try := func(l []api.Term, want api.Errno) {
			t.Helper()
			for _, x := range l {
				s.Term = x
				expectCheck(t, s, want)
			}
		}
		try(wrongs(), api.ErrTerm)
		if has(kind, "Term") {
			try(rights(), api.OK)
			try(zeros(), api.ErrTerm)
		} else {
			try(rights(), api.ErrTerm)
			try(zeros(), api.OK)
		}
	}
}

func TestP1101Numbers(t *testing.T) {
	for _, kind := range kinds {
		for _, n := range []int{math.MinInt, -far, -1, 0, 1, 2, 1 << 20, far - 1, far, far + 1, math.MaxInt} {
			s := plain(kind, 1, 2)
			s.Id = n
			expectCheck(t, s, argUnless(has(kind, "Id") && n > 0 || !has(kind, "Id") && n == 0))
			s = plain(kind, 1, 2)
			s.Ref = n
			expectCheck(t, s, argUnless(has(kind, "Ref") && n > 0 && n <= far || !has(kind, "Ref") && n == 0))
		}
	}
}

func argUnless(fits bool) api.Errno {
	if fits {
		return api.OK
	}
	return api.ErrArg
}

// A name may be any: what an atom may be is not asked here.
func TestP1101LinkName(t *testing.T) {
	for _, kind := range kinds {
		for _, link := range []bool{false, true} {
			s := plain(kind, 1, 2)
			s.Link = link
			expectCheck(t, s, argUnless(has(kind, "Link") || !link))
		}
		for _, name := range []string{"", "a", "\x00", "\xff", "undefined", strings.Repeat("n", api.MaxAtom), strings.Repeat("n", api.MaxAtom+1)} {
			s := plain(kind, 1, 2)
			s.Name = name
			expectCheck(t, s, argUnless(has(kind, "Name") || name == ""))
		}
	}
}

// Which error comes first, where several fields are wrong (P6).
func TestP1101First(t *testing.T) {
	for _, kind := range kinds {
		s := plain(kind, 1, 2)
		s.Term = api.Term{N: 1}
		expectCheck(t, s, api.ErrTerm)
		for _, change := range []func(*api.Signal){
			func(s *api.Signal) { s.Id = -1 },
			func(s *api.Signal) { s.Ref = -1 },
			func(s *api.Signal) { s.Link = true },
			func(s *api.Signal) { s.Name = "a" },
		} {
			x := s
			change(&x)
			expectCheck(t, x, api.ErrTerm)
		}
		for _, change := range []func(*api.Signal){
			func(s *api.Signal) { s.From = -1 },
			func(s *api.Signal) { s.To = 0 },
			func(s *api.Signal) { s.Kind = 9 },
		} {
			x := s
			change(&x)
			expectCheck(t, x, api.ErrArg)
		}
	}
}

// wanted says P1101 once more, as a list of what may be wrong, in its order.
func wanted(s api.Signal, right, zero bool) api.Errno {
	type fault struct {
		is  bool
		err api.Errno
	}
	id, ref, term := has(s.Kind, "Id"), has(s.Kind, "Ref"), has(s.Kind, "Term")
	faults := []fault{
		{s.From < 0 || s.From > far || s.To < 1 || s.To > far || !slices.Contains(kinds, s.Kind), api.ErrArg},
		{term && !right || !term && !zero, api.ErrTerm},
		{id && s.Id < 1 || !id && s.Id != 0, api.ErrArg},
		{ref && (s.Ref < 1 || s.Ref > far) || !ref && s.Ref != 0, api.ErrArg},
		{s.Link && !has(s.Kind, "Link"), api.ErrArg},
		{s.Name != "" && !has(s.Kind, "Name"), api.ErrArg},
	}
	n := slices.IndexFunc(faults, func(f fault) bool { return f.is })
	if n < 0 {
		return api.OK
	}
	return faults[n].err
}

// All fields with all others, each at its edges.
func TestP1101Together(t *testing.T) {
	type sample struct {
		term        api.Term
		right, zero bool
	}
	samples := []sample{{api.Term{}, false, true}, {api.Term{L: []api.Term{}}, false, true}, {atom("a"), true, false}, {list(float(minus)), true, false}, {api.Term{F: minus}, false, false}, {atom(strings.Repeat("x", 65)), false, false}, {nested(api.KList, 200, whole(1)), false, false}}
	counts := map[api.Errno]int{}
	look := func(s api.Signal, x sample) {
		s.Term = x.term
		want := wanted(s, x.right, x.zero)
		counts[want]++
		if got := ether.Check(s); got != want {
			t.Fatalf("P1101 Check(%s): %v; want %v", said(s), got, want)
		}
	}
	ends := [][2]int{{0, 1}, {1, 1}, {far, far}, {-1, 1}, {far + 1, 1}, {1, 0}, {1, -1}, {0, far + 1}}
	numbers := []int{-1, 0, 1, far, far + 1}
	for kind := -1; kind <= 10; kind++ {
		for _, x := range samples {
			for _, end := range ends {
				for n := range 5 * 5 * 2 * 2 {
					look(api.Signal{From: end[0], To: end[1], Kind: kind, Id: numbers[n%5], Ref: numbers[n/5%5], Link: n/25%2 > 0, Name: []string{"", "a"}[n/50]}, x)
				}
			}
		}
	}
	for _, e := range []api.Errno{api.OK, api.ErrArg, api.ErrTerm} {
		if counts[e] < 50 {
			t.Errorf("%v: %d times: too few to tell", e, counts[e])
		}
	}
}

// What is handed in stays as it was (P2).
func TestP1101Unchanged(t *testing.T) {
	for _, kind := range kinds {
		for _, x := range rights() {
			s := plain(kind, 1, 2)
			s.Term = copied(x)
			ether.Check(s)
			if !alikeTerm(s.Term, x) || !roomStands(s.Term) {
				t.Errorf("P2 Check(%s) changed what it was given", said(s))
			}
		}
	}
}
