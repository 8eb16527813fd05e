package ether_test

import (
	"math/rand"
	"runtime"
	"slices"
	"testing"

	"exitwave/api"
	"exitwave/ether"
)

// ledger says chapter 11 once more: all that is under way, in one list, in the order in which it was put.
type ledger struct {
	under      []api.Signal
	put, taken map[[2]int][]api.Signal
}

func (l *ledger) lane(from, to int) []api.Signal {
	var out []api.Signal
	for _, s := range l.under {
		if s.From == from && s.To == to {
			out = append(out, s)
		}
	}
	return out
}

func (l *ledger) lay(s api.Signal) {
	l.under = append(l.under, s)
	way := [2]int{s.From, s.To}
	l.put[way] = append(l.put[way], s)
}

func (l *ledger) take(from, to int) (api.Signal, bool) {
	n := slices.IndexFunc(l.under, func(s api.Signal) bool { return s.From == from && s.To == to })
	if n < 0 {
		return api.Signal{}, false
	}
	s := l.under[n]
	l.under = slices.Delete(l.under, n, n+1)
	return s, true
}

func (l *ledger) ready(to int) []int {
	var out []int
	for _, s := range l.under {
		if s.To == to && !slices.Contains(out, s.From) {
			out = append(out, s.From)
		}
	}
	slices.Sort(out)
	return out
}

// agree holds all that can be asked of an ether against the ledger.
func agree(t *testing.T, e *ether.Ether, l *ledger, few int) {
	t.Helper()
	expectAll(t, e, l.under...)
	for to := range few + 2 {
		expectReady(t, e, to, l.ready(to)...)
		for from := range few + 2 {
			lane := l.lane(from, to)
			if e.Len(from, to) != len(lane) {
				t.Fatalf("P1102 Len(%d, %d): %d; want %d", from, to, e.Len(from, to), len(lane))
			}
			if len(lane) > 0 {
				expectPeek(t, e, from, to, lane[0])
			}
			way := [2]int{from, to}
			if !alikeAll(append(slices.Clone(l.taken[way]), lane...), l.put[way]) {
				t.Fatalf("P1105 from %d to %d: taken and there is not what was put", from, to)
			}
		}
	}
}

// Runs that are made by chance: what was taken of a lane, and what is still there, is what was put.
func TestP1105ByChance(t *testing.T) {
	r := rand.New(rand.NewSource(1105))
	for range 60 {
		few := 1 + r.Intn(5)
		e, l := ether.New(), &ledger{put: map[[2]int][]api.Signal{}, taken: map[[2]int][]api.Signal{}}
		likely := 1 + r.Intn(9)
		for n := range 150 {
			if n%40 == 39 {
				likely = 1 + r.Intn(9)
			}
			if r.Intn(10) < likely {
				s := someSignal(r, few, n+1)
				put(t, e, s)
				l.lay(s)
			} else {
				from, to := r.Intn(few+1), 1+r.Intn(few)
				got, is := e.Take(from, to)
				want, there := l.take(from, to)
				if is != there || !alike(got, want) {
					t.Fatalf("P1102 Take(%d, %d): %s, %v; want %s, %v", from, to, said(got), is, said(want), there)
				}
				if is {
					l.taken[[2]int{from, to}] = append(l.taken[[2]int{from, to}], got)
				}
			}
			agree(t, e, l, few)
			if t.Failed() {
				return
			}
		}
	}
}

// No lane hangs on another one: what is told of one is the same, whatever passes in the others in between.
func TestP1105Apart(t *testing.T) {
	r := rand.New(rand.NewSource(1106))
	for range 50 {
		alone, among := ether.New(), ether.New()
		for n := range 200 {
			for range r.Intn(4) {
				s := someSignal(r, 3, n+1)
				if s.From == 1 && s.To == 2 {
					continue
				}
				put(t, among, s)
				among.Take(r.Intn(2)*3, 1+r.Intn(3))
			}
			if r.Intn(2) == 0 {
				s := message(1, 2, int64(n))
				put(t, alone, s)
				put(t, among, s)
			} else {
				a, is := alone.Take(1, 2)
				b, there := among.Take(1, 2)
				if is != there || !alike(a, b) {
					t.Fatalf("P1105 Take(1, 2): %s, %v among others; want %s, %v", said(b), there, said(a), is)
				}
			}
			if alone.Len(1, 2) != among.Len(1, 2) {
				t.Fatalf("P1105 Len(1, 2): %d among others; want %d", among.Len(1, 2), alone.Len(1, 2))
			}
		}
	}
}

// The same calls in the same order answer the same (P3), however a map is gone through.
func TestP1103Again(t *testing.T) {
	made := func() *ether.Ether {
		r := rand.New(rand.NewSource(3))
		e := ether.New()
		for n := range 500 {
			put(t, e, someSignal(r, 30, n+1))
		}
		return e
	}
	first := made()
	for range 20 {
		e := made()
		if !slices.EqualFunc(e.Lanes(), first.Lanes(), alikeLane) {
			t.Fatalf("P3 Lanes: another answer")
		}
		for to := range 32 {
			expectReady(t, e, to, first.Ready(to)...)
		}
	}
}

// Long runs through one lane, and through one after the other.
func TestP1105Long(t *testing.T) {
	const long = 1 << 16
	e := ether.New()
	for n := range long {
		put(t, e, message(1, 2, int64(n)))
	}
	for n := range 3 * long {
		if s, is := e.Peek(1, 2); !is || s.Term.N != int64(n) || e.Len(1, 2) != long {
			t.Fatalf("P1105 Peek: %s, %v, Len %d; want %d, %d", said(s), is, e.Len(1, 2), n, long)
		}
		if s, is := e.Take(1, 2); !is || s.Term.N != int64(n) {
			t.Fatalf("P1105 Take: %s, %v; want %d", said(s), is, n)
		}
		put(t, e, message(1, 2, int64(long+n)))
	}
	if e.All() != long {
		t.Errorf("P1102 All: %d; want %d", e.All(), long)
	}
}

// A lane that was emptied is not kept, however many there were one after the other.
func TestP1105NotKept(t *testing.T) {
	before := inUse()
	e := ether.New()
	for n := range 1 << 18 {
		s := plain(api.SLink, n, 1+n%1000)
		put(t, e, s)
		expectTake(t, e, s.From, s.To, s)
	}
	if more := inUse() - before; more > 1<<20 {
		t.Errorf("an ether without signals keeps %d bytes", more)
	}
	runtime.KeepAlive(e)
}
