package sound_test

import (
	"math/rand"
	"slices"
	"testing"

	"exitwave/api"
	"exitwave/sound"
)

// chance makes states, sources and scripts.
type chance struct{ *rand.Rand }

func newChance(n int64) chance { return chance{rand.New(rand.NewSource(n))} }

func (r chance) of(l ...string) string { return l[r.Intn(len(l))] }

func (r chance) state() int {
	return []int{api.PReady, api.PReady, api.PWaiting, api.PWaiting, api.PReady, api.PEnded}[r.Intn(6)]
}

// settled is a state that breaks no rule: halves are there on both sides, and nobody is exiting.
func (r chance) settled() api.State {
	var s api.State
	many := r.Intn(5)
	for i := range many {
		s.Procs = append(s.Procs, process(i+1, r.state()))
	}
	for i := range s.Procs {
		for j := range s.Procs {
			p, q := &s.Procs[i], &s.Procs[j]
			if i > j || !lives(*p) || !lives(*q) {
				continue
			}
			if r.Intn(2) == 0 {
				linked(q.Pid)(p)
				if i != j {
					linked(p.Pid)(q)
				}
			}
		}
	}
	r.watch(s)
	r.furnish(s)
	for i := range s.Procs {
		slices.SortFunc(s.Procs[i].Links, func(a, b api.Half) int { return a.Pid - b.Pid })
	}
	return s
}

func (r chance) watch(s api.State) {
	for n := range r.Intn(6) {
		if len(s.Procs) == 0 {
			return
		}
		p, q := &s.Procs[r.Intn(len(s.Procs))], &s.Procs[r.Intn(len(s.Procs))]
		switch {
		case !lives(*p):
		case r.Intn(6) == 0:
			byName(n+1, 0, "nobody")(p)
		case lives(*q):
			origin(n+1, q.Pid)(p)
			target(n+1, p.Pid)(q)
		}
	}
}

func (r chance) furnish(s api.State) {
	for i := range s.Procs {
		p := &s.Procs[i]
		if !lives(*p) {
			because(atom("normal"))(p)
			continue
		}
		if r.Intn(3) == 0 {
			named(string(rune('a' + i)))(p)
		}
		if r.Intn(3) == 0 {
			has(atom("x"))(p)
		}
		p.Trap = r.Intn(3) == 0
	}
}

// spoilt writes over one thing, or takes out or puts in one; mostly that breaks something.
func (r chance) spoilt(s *api.State) {
	if r.Intn(12) == 0 {
		s.Lanes = append(s.Lanes, lane(r.Intn(3), r.Intn(3), r.Intn(3)))
	}
	if len(s.Procs) == 0 {
		s.Procs = append(s.Procs, process(r.Intn(3), r.Intn(6)))
		return
	}
	p := &s.Procs[r.Intn(len(s.Procs))]
	switch r.Intn(16) {
	case 14:
		if len(p.Links) > 0 { // one that both have
			p.Links = slices.Clone(p.Links)
			p.Links[0].State, p.Links[0].Id = api.Unlinking, 1
		}
	case 0:
		p.Pid = r.Intn(7) - 1
	case 1, 2:
		p.State = r.Intn(6)
	case 3:
		s.Procs = append(s.Procs, *p)
	case 4:
		s.Procs = slices.Delete(s.Procs, 0, 1)
	case 5, 6:
		p.Links = change(r, p.Links, api.Half{Pid: r.Intn(6), State: r.Intn(4), Id: r.Intn(3) - 1})
	case 7, 8:
		p.Links = change(r, p.Links, api.Half{Pid: r.Intn(6), State: api.Linked})
	case 9, 10:
		p.Origins = change(r, p.Origins, api.Mon{Ref: r.Intn(7), Pid: r.Intn(6)})
	case 11, 12:
		p.Targets = change(r, p.Targets, api.Mon{Ref: r.Intn(7), Pid: r.Intn(6)})
	case 13:
		p.Names = change(r, p.Names, string(rune('a'+r.Intn(4))))
	default:
		p.Reason, p.Trap = []api.Term{{}, {}, atom("x")}[r.Intn(3)], r.Intn(2) == 0
		p.Inbox = change(r, p.Inbox, atom("y"))
	}
}

// change puts something into a list, takes something out of it, or writes over something, by chance.
func change[T any](r chance, l []T, x T) []T {
	l = slices.Clone(l)
	if len(l) == 0 || r.Intn(3) == 0 {
		return slices.Insert(l, r.Intn(len(l)+1), x)
	}
	i := r.Intn(len(l))
	if r.Intn(2) == 0 {
		return slices.Delete(l, i, i+1)
	}
	l[i] = x
	return l
}

// States by chance, from such as are sound to such as break many rules, held against the table in other words.
func TestP2001ByChance(t *testing.T) {
	r := newChance(2001)
	alone, broken, many := map[sound.Rule]int{}, map[sound.Rule]int{}, map[int]int{}
	for range 100000 {
		s := r.settled()
		if l := sound.Check(s); len(l) > 0 {
			t.Fatalf("P2001 Check of %+v: %v", s, l)
		}
		for range r.Intn(6) {
			r.spoilt(&s)
		}
		got, want := sound.Check(s), said(s)
		if !slices.Equal(got, want) || sound.Calmed(s) != saidCalmed(s) {
			t.Fatalf("P2001 Check of %+v: %v; want %v", s, got, want)
		}
		many[len(want)]++
		for _, x := range want {
			broken[x]++
		}
		if len(want) == 1 {
			alone[want[0]]++
		}
	}
	for x := sound.Order; x <= sound.Paired; x++ {
		if broken[x] < 1000 || alone[x] < 100 && x != sound.Dead || many[int(x)-1] < 20 {
			t.Errorf("states by chance broke rule %d %d times, alone %d times; %d states broke %d rules: too few", x, broken[x], alone[x], many[int(x)-1], x-1)
		}
	}
}

// The other calls over the same states, held against what the document says of them.
func TestP2002P2003ByChance(t *testing.T) {
	r := newChance(2002)
	for range 20000 {
		s := r.settled()
		for range r.Intn(8) {
			r.spoilt(&s)
		}
		var want counted
		for _, l := range s.Lanes {
			want.signals += len(l.Signals)
		}
		for _, p := range s.Procs {
			if p.State != 4 {
				want.links, want.targets, want.origins = want.links+len(p.Links), want.targets+len(p.Targets), want.origins+len(p.Origins)
			}
		}
		want.bound = want.signals + want.signals + want.links + want.targets + want.origins
		if got := countsOf(s); got != want || len(told(s, 1000)) != want.signals {
			t.Fatalf("P2002 Count, Bound of %+v: %+v; want %+v", s, got, want)
		}
		for pid := -1; pid < 7; pid++ {
			p, is := sound.Find(s, pid)
			l := whoIs(s, pid)
			if is != (len(l) == 1) || is && all(p) != all(l[0]) || !is && all(p) != all(api.Proc{}) {
				t.Fatalf("P2003 Find of %d in %+v: %+v, %v", pid, s, p, is)
			}
		}
	}
}
