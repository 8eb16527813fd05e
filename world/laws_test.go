package world_test

import (
	"fmt"
	"slices"
	"testing"

	"exitwave/api"
	"exitwave/world"
)

// told is Run's state as a text.
func told(t *testing.T, source string, c api.Config, l ...api.Step) string {
	t.Helper()
	s, err := world.Run(source, c, l)
	if err != nil {
		t.Fatalf("P1901 %s: %v", source, err)
	}
	return all(s)
}

// Fuel that is cut anywhere, 0 of it ahead or behind too, through spawning, sending, receiving and an end.
func TestP1906Cut(t *testing.T) {
	source := mainly("P = spawn_link("+waits+"), spawn_monitor("+waits+"), P ! a, self() ! b, receive none -> 1 after 0 -> 2 end, f(3), exit(oops)", "f(0) -> out(0); f(N) -> out({N, catch f(N - 1)}).")
	whole := told(t, source, plenty, run(1, 40))
	for a := range 41 {
		if cut := told(t, source, plenty, run(1, a), run(1, 40-a)); cut != whole {
			t.Errorf("P1906 fuel %d and %d: %s; want %s", a, 40-a, cut, whole)
		}
	}
	for sum := range 20 {
		want := told(t, source, plenty, run(1, sum))
		for a := range sum + 1 {
			if cut := told(t, source, plenty, run(1, a), run(1, sum-a)); cut != want {
				t.Errorf("P1906 fuel %d and %d: %s; want %s", a, sum-a, cut, want)
			}
		}
	}
}

// Up to MaxFuel, and no further: a run of more is nothing.
func TestP1906MaxFuel(t *testing.T) {
	source := mainly("f(0)", "f(N) -> out(N), f(N + 1).")
	whole := told(t, source, plenty, run(1, api.MaxFuel))
	for _, a := range []int{0, 1, 1000, api.MaxFuel / 2, api.MaxFuel - 1, api.MaxFuel} {
		if cut := told(t, source, plenty, run(1, a), run(1, api.MaxFuel-a)); cut != whole {
			t.Errorf("P1906 fuel %d and %d is not that of MaxFuel", a, api.MaxFuel-a)
		}
	}
	if told(t, source, plenty, run(1, api.MaxFuel+1)) != told(t, source, plenty) || told(t, source, plenty, run(1, api.MaxFuel), run(1, 1)) == told(t, source, plenty) {
		t.Errorf("P1906: a run with more than MaxFuel is something")
	}
}

// Fuel cut by chance, and collections anywhere, of processes that are and that never were.
func TestP1906ByChance(t *testing.T) {
	r := newChance(1906)
	for range 1500 {
		source, c, l := r.source(), r.config(), r.script(40)
		var cut, collected []api.Step
		for _, x := range l {
			for range r.Intn(3) {
				collected = append(collected, collect(r.Intn(9)-1))
			}
			collected = append(collected, x)
			if x.Kind == api.XRun && x.N > 0 {
				a := r.Intn(x.N + 1)
				cut = append(cut, run(x.A, a))
				x.N -= a
			}
			cut = append(cut, x)
		}
		whole := told(t, source, c, l...)
		if got := told(t, source, c, cut...); got != whole {
			t.Fatalf("P1906 of %s, %v: %s; cut: %s", source, l, whole, got)
		}
		if got := told(t, source, c, collected...); got != whole {
			t.Fatalf("P1906 of %s, %v: %s; with collections: %s", source, l, whole, got)
		}
	}
}

// Collections change nothing of what Drain and Settle tell, either.
func TestP1906Collect(t *testing.T) {
	r := newChance(19061)
	for range 300 {
		source, c, l := r.source(), r.config(), r.script(40)
		with := slices.Concat([]api.Step{collect(1), collect(-1)}, l, []api.Step{collect(2), collect(99)})
		s1, n1, _ := world.Drain(source, c, l)
		s2, n2, err := world.Drain(source, c, with)
		if err != nil || n1 != n2 || all(s1) != all(s2) {
			t.Fatalf("P1906 Drain of %s, %v: %s, %d; with collections: %s, %d, %v", source, l, all(s1), n1, all(s2), n2, err)
		}
		s1, is1, _ := world.Settle(source, c, l, 3, 5)
		s2, is2, err := world.Settle(source, c, with, 3, 5)
		if err != nil || is1 != is2 || all(s1) != all(s2) {
			t.Fatalf("P1906 Settle of %s, %v: %s, %v; with collections: %s, %v, %v", source, l, all(s1), is1, all(s2), is2, err)
		}
	}
}

// spoil writes over all that a state has, also its spare room.
func spoil(s api.State) {
	for _, p := range s.Procs[:cap(s.Procs)] {
		spoilTerms(p.Inbox)
		spoilTerms(p.Reason.L)
		fill(p.Links, api.Half{Pid: 77})
		fill(p.Origins, api.Mon{Ref: 77})
		fill(p.Targets, api.Mon{Ref: 77})
		fill(p.Names, "spoilt")
	}
	for _, lane := range s.Lanes[:cap(s.Lanes)] {
		for _, x := range lane.Signals[:cap(lane.Signals)] {
			spoilTerms(x.Term.L)
		}
		fill(lane.Signals, api.Signal{From: 77})
	}
	spoilTerms(s.Out)
	fill(s.Procs, api.Proc{Pid: 77})
	fill(s.Lanes, api.Lane{From: 77})
}

func spoilTerms(l []api.Term) {
	for _, x := range l[:cap(l)] {
		spoilTerms(x.L)
	}
	fill(l, api.Term{Kind: 77})
}

func fill[T any](l []T, x T) {
	for i := range l[:cap(l)] {
		l[:cap(l)][i] = x
	}
}

// laden is a source and a script behind which there is something of all that a state can have.
func laden(t *testing.T) (string, []api.Step) {
	t.Helper()
	source := mainly("process_flag(trap_exit, true), register(here, self()), P = spawn_link(" + waits + "), {Q, R} = spawn_monitor(" + waits + "), link(Q), P ! {a, [1, {b}]}, self() ! {c, [2]}, self() ! [[d]], Q ! [e], out({f, [3]}), out([[g]]), exit(Q, {h, [4]}), receive x -> 1 end")
	l := steps(t, "r 1 40 r 2 9 r 3 9 d 1 1 d 1 3 d 1 3 d 1 3 d 1 2")
	s, err := world.Run(source, plenty, append(l, deliver(1, 9)))
	p := s.Procs
	if err != nil || len(p) != 3 || len(p[0].Links) != 2 || len(p[0].Origins) != 1 || len(p[0].Names) != 1 || len(p[0].Inbox) != 1 || len(p[1].Inbox) != 1 || len(p[2].Targets) != 1 || len(p[2].Reason.L) != 2 || len(s.Lanes) != 1 || len(s.Out) != 2 {
		t.Fatalf("not laden: %s, %v", all(s), err)
	}
	return source, l
}

// What is told is the caller's own: to write over it changes nothing else of the answer, and nothing that is told later.
func TestP2Told(t *testing.T) {
	source, l := laden(t)
	want := told(t, source, plenty, l...)
	s, _ := world.Run(source, plenty, l)
	spoil(s)
	first, n, _ := world.Drain(source, plenty, l)
	drained := all(first)
	spoil(first)
	again, m, _ := world.Drain(source, plenty, l)
	settled, _, _ := world.Settle(source, plenty, l, 9, 0)
	if told(t, source, plenty, l...) != want || all(again) != drained || n != m || all(settled) != want {
		t.Errorf("P2: what was told before was written over, and %s is told", told(t, source, plenty, l...))
	}
	for crew := 1; crew <= api.MaxCrew; crew++ {
		states, _ := world.Farm(crew, []string{source, source, source, source}, plenty, l)
		for i := range states {
			if all(states[i]) != want {
				t.Errorf("P2 Farm of %d: state %d is %s; want %s", crew, i, all(states[i]), want)
			}
			spoil(states[i])
		}
		for i := len(states); i < cap(states); i++ {
			spoil(states[:cap(states)][i])
		}
	}
}

// Two lists of one answer share no memory: each is written over by what it has not, and no other one changes.
func TestP2Apart(t *testing.T) {
	source, l := laden(t)
	s, _ := world.Run(source, plenty, l)
	var lists [][]api.Term
	var walk func(l []api.Term)
	walk = func(l []api.Term) {
		lists = append(lists, l)
		for _, x := range l {
			walk(x.L)
		}
	}
	for _, p := range s.Procs {
		walk(p.Inbox)
		walk(p.Reason.L)
	}
	for _, lane := range s.Lanes {
		for _, x := range lane.Signals {
			walk(x.Term.L)
		}
	}
	walk(s.Out)
	for i, a := range lists {
		fill(a, api.Term{Kind: api.KInt, N: int64(i)})
	}
	for i, a := range lists {
		for _, x := range a[:cap(a)] {
			if x.N != int64(i) {
				t.Errorf("P2: lists %d and %d share memory", i, x.N)
			}
		}
	}
	script, _ := world.Script("k 1 k 2 k 3")
	_ = append(script, kill(9))
	other, _ := world.Script("k 1 k 2 k 3")
	fill(script, kill(7))
	if !slices.Equal(other, []api.Step{kill(1), kill(2), kill(3)}) {
		t.Errorf("P2: what Script told later is %v", other)
	}
}

// What is handed in stays as it is, its spare room too.
func TestP2HandedIn(t *testing.T) {
	source, l := laden(t)
	room := append(append(make([]api.Step, 0, 40), l...), kill(1), kill(2))
	handed := room[:len(l)]
	sources := append(make([]string, 0, 9), source, "", source, "spare", "room")
	kept, keptSources := slices.Clone(room[:cap(room)]), slices.Clone(sources[:cap(sources)])
	world.Run(source, plenty, handed)
	world.Drain(source, plenty, handed)
	world.Settle(source, plenty, handed, 5, 5)
	world.Text(handed)
	for crew := -1; crew <= api.MaxCrew+1; crew++ {
		world.Farm(crew, sources[:3], plenty, handed)
	}
	if !slices.Equal(room[:cap(room)], kept) || !slices.Equal(sources[:cap(sources)], keptSources) {
		t.Errorf("P2: what was handed in is %v, %q; it was %v, %q", room[:cap(room)], sources[:cap(sources)], kept, keptSources)
	}
}

// The same calls answer the same, whatever is called between.
func TestP3Same(t *testing.T) {
	r := newChance(3)
	for range 60 {
		source, c, l := r.source(), r.config(), r.script(40)
		answers := func() string {
			s1, n, _ := world.Drain(source, c, l)
			s2, calm, _ := world.Settle(source, c, l, 4, 6)
			script, e := world.Script(world.Text(l))
			return fmt.Sprint(told(t, source, c, l...), all(s1), n, all(s2), calm, world.Text(script), e)
		}
		first := answers()
		world.Run(talk, plenty, nil)
		world.Run("", plenty, nil)
		world.Farm(3, []string{talk, source}, c, l)
		if again := answers(); again != first {
			t.Fatalf("P3: %s, then %s", first, again)
		}
	}
}
