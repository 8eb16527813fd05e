package sound_test

import (
	"fmt"
	"slices"
	"testing"

	"exitwave/api"
	"exitwave/sound"
)

// laden has something in each list, with spare room behind it that is not empty, and shares memory wherever it can.
func laden() api.State {
	terms := append(make([]api.Term, 0, 6), down(3), list(tuple(atom("a"))), down(3), atom("spare"))[:3]
	terms[1].L = append(make([]api.Term, 0, 4), terms[1].L[0], atom("spare"))[:1]
	mons := append(make([]api.Mon, 0, 5), api.Mon{Ref: 1, Pid: 2, Name: "n"}, api.Mon{Ref: 2, Pid: 2}, api.Mon{Ref: 77})[:2]
	links := append(make([]api.Half, 0, 5), api.Half{Pid: 1, State: api.Linked}, api.Half{Pid: 2, State: api.Linked}, api.Half{Pid: 77})[:2]
	names := append(make([]string, 0, 5), "a", "b", "spare")[:2]
	p := api.Proc{Pid: 1, State: api.PReady, Reason: list(terms...), Trap: true, Inbox: terms, Links: links, Origins: mons, Targets: mons, Names: names}
	p.Reason.L = terms
	q := p
	q.Pid = 2
	x := api.Signal{From: 1, To: 2, Kind: api.SMessage, Name: "n", Term: api.Term{Kind: api.KList, L: terms}}
	signals := append(make([]api.Signal, 0, 5), x, x, api.Signal{From: 77})[:2]
	lanes := append(make([]api.Lane, 0, 5), api.Lane{From: 1, To: 2, Signals: signals}, api.Lane{From: 2, To: 1, Signals: signals}, api.Lane{From: 77})[:2]
	return api.State{Procs: append(make([]api.Proc, 0, 5), p, q, api.Proc{Pid: 77})[:2], Lanes: lanes, Out: terms}
}

// room says a list with its spare room.
func room[T any](l []T) string { return fmt.Sprintf("%d of %+v", len(l), l[:cap(l)]) }

// rooms says all that a state has, with all spare room.
func rooms(s api.State) string {
	l := []string{room(s.Procs), room(s.Lanes), room(s.Out)}
	for _, p := range s.Procs[:cap(s.Procs)] {
		l = append(l, room(p.Inbox), room(p.Links), room(p.Origins), room(p.Targets), room(p.Names), room(p.Reason.L))
		for _, x := range p.Inbox {
			l = append(l, room(x.L))
		}
	}
	for _, lane := range s.Lanes[:cap(s.Lanes)] {
		l = append(l, room(lane.Signals))
	}
	return fmt.Sprintln(l)
}

// fill writes over a list and its spare room.
func fill[T any](l []T, x T) {
	l = l[:cap(l)]
	for i := range l {
		l[i] = x
	}
}

func spoilTerms(l []api.Term) {
	for _, x := range l[:cap(l)] {
		spoilTerms(x.L)
	}
	fill(l, api.Term{Kind: 77})
}

func spoilProc(p api.Proc) {
	spoilTerms(p.Inbox)
	spoilTerms(p.Reason.L)
	fill(p.Links, api.Half{Pid: 88})
	fill(p.Origins, api.Mon{Ref: 88})
	fill(p.Targets, api.Mon{Ref: 88})
	fill(p.Names, "spoilt")
}

// What is handed in stays as it is, also when what is told is written over.
func TestP2HandedIn(t *testing.T) {
	s := laden()
	was := rooms(s)
	calmed := s
	calmed.Lanes = nil
	fill(sound.Check(s), 77)
	fill(sound.Check(calmed), 77)
	sound.Calmed(s)
	sound.Count(s)
	sound.Bound(s)
	sound.Downs(s, 1, 3)
	for _, n := range []int{1, 2, 3} {
		p, _ := sound.Find(s, n)
		spoilProc(p)
	}
	for range 2 {
		for _, x := range sound.Lanes(s) {
			spoilTerms(x.Term.L)
		}
	}
	if now := rooms(s); now != was {
		t.Errorf("P2: what was handed in is %s; it was %s", now, was)
	}
}

// What is told is the caller's own: it stays as it is, whatever becomes of what was handed in, and of what was told before.
func TestP2Told(t *testing.T) {
	s := laden()
	broken, sequence := sound.Check(s), sound.Lanes(s)
	p, _ := sound.Find(s, 1)
	want, signals := all(p), told(s, 9)
	if !slices.Equal(broken, rules(sound.Order, sound.Alive, sound.Named)) || len(signals) != 4 || want != all(s.Procs[0]) {
		t.Fatalf("P2001 to P2003 of a laden state: %v, %v, %s", broken, signals, want)
	}
	for i := range s.Procs[:cap(s.Procs)] {
		spoilProc(s.Procs[:cap(s.Procs)][i])
	}
	for _, l := range s.Lanes {
		fill(l.Signals, api.Signal{From: 88})
	}
	fill(s.Procs, api.Proc{Pid: 88})
	fill(s.Lanes, lane(88, 88, 5))
	if all(p) != want || !slices.Equal(broken, rules(sound.Order, sound.Alive, sound.Named)) {
		t.Errorf("P2: what was told is %+v, %v; it was %s", p, broken, want)
	}
	for range 3 { // over what it was made of, as that was then (P7), whatever a loop does to what it is told
		var now []string
		for place, x := range sequence {
			now = append(now, fmt.Sprintf("%d %+v", place, x))
			spoilTerms(x.Term.L)
		}
		if !slices.Equal(now, signals) {
			t.Errorf("P7: Lanes goes over %v; it was made of %v", now, signals)
		}
	}
}

// No two lists of one answer share memory, though those that were handed in do.
func TestP2Apart(t *testing.T) {
	p, _ := sound.Find(laden(), 1)
	fill(p.Origins, api.Mon{Ref: 88})
	if want := laden().Procs[0].Targets; !slices.Equal(p.Targets, want) {
		t.Errorf("P2: Targets are %v; want %v", p.Targets, want)
	}
	var lists [][]api.Term
	var walk func(l []api.Term)
	walk = func(l []api.Term) {
		lists = append(lists, l)
		for _, x := range l {
			walk(x.L)
		}
	}
	walk(p.Inbox)
	walk(p.Reason.L)
	for _, x := range sound.Lanes(laden()) {
		walk(x.Term.L)
	}
	for i, l := range lists {
		fill(l, whole(int64(i)))
	}
	for i, l := range lists {
		for _, x := range l[:cap(l)] {
			if x.N != int64(i) {
				t.Errorf("P2: lists %d and %d share memory", i, x.N)
			}
		}
	}
}

// No list and an empty one are the same, with spare room or without.
func TestP2Empty(t *testing.T) {
	empty := api.Proc{Pid: 1, State: api.PEnded, Inbox: make([]api.Term, 0, 3), Links: make([]api.Half, 0, 3), Origins: make([]api.Mon, 0, 3), Targets: make([]api.Mon, 0, 3), Names: make([]string, 0, 3)}
	s := api.State{Procs: []api.Proc{empty}, Lanes: make([]api.Lane, 0, 3)}
	expectCheck(t, "an ended one with empty lists", s)
	p, is := sound.Find(s, 1)
	if !is || all(p) != all(ended(1)) {
		t.Errorf("P2 Find: %+v, %v", p, is)
	}
	_ = append(p.Links, api.Half{Pid: 88})
	_ = append(p.Names, "spoilt")
	if now := room(empty.Links) + room(empty.Names); now != room(make([]api.Half, 0, 3))+room(make([]string, 0, 3)) {
		t.Errorf("P2: what was handed in has the spare room of what was told: %s", now)
	}
}

// Terms may be nested however deep.
func TestP1Deep(t *testing.T) {
	x := atom("a")
	for range 1 << 16 {
		x = list(x)
	}
	s := of(ready(1, has(x, tuple(x, x, x, x, x), tuple(atom("DOWN"), x, x, x, x)), because(x)))
	s.Lanes = []api.Lane{{From: 1, To: 1, Signals: []api.Signal{{From: 1, To: 1, Kind: api.SMessage, Term: x}}}}
	if l := sound.Check(s); !slices.Equal(l, rules(sound.Alive)) || sound.Downs(s, 1, 1) != 0 {
		t.Errorf("P1: %v", l)
	}
	p, _ := sound.Find(s, 1)
	deep := 0
	for x := p.Reason; len(x.L) > 0; x = x.L[0] {
		deep++
	}
	for _, x := range sound.Lanes(s) {
		for y := x.Term; len(y.L) > 0; y = y.L[0] {
			deep++
		}
	}
	if deep != 2<<16 {
		t.Errorf("P2003: %d deep", deep)
	}
}
