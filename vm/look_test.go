package vm_test

import (
	"math"
	"testing"

	"exitwave/api"
	"exitwave/vm"
)

// furnishedAll has something to tell in each list: 1 has messages, half-links, origins, targets, a name; 2 has ended with a tuple; signals with terms are under way.
func furnishedAll(t *testing.T) *vm.VM {
	t.Helper()
	v := ran(t, "process_flag(trap_exit, true), {P, R} = spawn_monitor(fun() -> exit({a, [b, {c}]}) end), Q = spawn_link(fun() -> monitor(process, a), a ! {x, [y]}, a ! {z, {}}, receive stop -> 1 end end), S = spawn("+waits+"), link(S), unlink(S), monitor(process, nobody), register(a, self()), Q ! {m, [1, {2}]}, out({o, [p]}), out([{q}]), receive stop -> 1 end")
	run(v, 3, 9)
	deliver(v, 3, 1)
	deliver(v, 3, 1)
	run(v, 2, 9)
	want := "1: ready trap inbox[{x,[y]}] links[3 4/1] origins[1:2 2:0=nobody] targets[3:3] names[a]\n2: ended reason[{a,[b,{c}]}]\n3: waiting links[1] origins[3:1=a]\n4: ready\n" +
		"lanes: 0>1 down ref2 noproc, 1>3 message {m,[1,{2}]}, 1>4 link, 1>4 unlink id1, 2>1 down ref1 {a,[b,{c}]}, 3>1 message {z,{}}\nout: {o,[p]} [{q}]\n"
	if got := stateText(v.State()); got != want {
		t.Fatalf("P1803 State: %s; want %s", got, want)
	}
	return v
}

// All looks agree with each other.
func TestP1803Looks(t *testing.T) {
	v := furnishedAll(t)
	s := v.State()
	var l api.State
	for n := 1; n <= v.Procs(); n++ {
		p, is := v.Proc(n)
		if !is || p.Pid != n {
			t.Errorf("P1803 Proc(%d): %d, %v", n, p.Pid, is)
		}
		l.Procs = append(l.Procs, p)
	}
	l.Lanes, l.Out = v.Lanes(), v.Out()
	if stateText(l) != stateText(s) {
		t.Errorf("P1803: %s; State: %s", stateText(l), stateText(s))
	}
	many := 0
	for _, lane := range s.Lanes {
		many += len(lane.Signals)
	}
	if v.Under() != many || v.Procs() != len(s.Procs) || v.Procs() != 4 {
		t.Errorf("P1803: Under %d, Procs %d; want %d, %d", v.Under(), v.Procs(), many, len(s.Procs))
	}
}

// Of a process that was never made there is nothing to tell (P4).
func TestP1803Never(t *testing.T) {
	v := furnishedAll(t)
	for _, n := range []int{0, -1, 5, 6, 1 << 10, 1 << 20, 1<<32 + 1, 1<<32 + 2, math.MinInt, math.MaxInt} {
		if p, is := v.Proc(n); is || p.Pid != 0 || procText(p) != "" {
			t.Errorf("P1803 Proc(%d): %+v, %v", n, p, is)
		}
	}
}

// Fields that a state does not have are zero (P4).
func TestP1803Zero(t *testing.T) {
	v := furnishedAll(t)
	for n := 1; n <= 4; n++ {
		p, _ := v.Proc(n)
		if n != 2 && (p.Reason.Kind != 0 || p.Reason.N != 0 || p.Reason.F != 0 || p.Reason.S != "" || len(p.Reason.L) != 0) {
			t.Errorf("P1803: one that is alive has the reason %+v", p.Reason)
		}
	}
	for _, lane := range v.Lanes() {
		for _, s := range lane.Signals {
			if s.Kind == api.SLink && (s.Term.Kind != 0 || len(s.Term.L) != 0) {
				t.Errorf("P1803: %+v", s)
			}
		}
	}
}

// spoilTerms, spoilLanes, spoilProc write into all lists that were told, their spare room too.
func spoilTerms(l []api.Term) {
	l = l[:cap(l)]
	for i := range l {
		spoilTerms(l[i].L)
		l[i] = api.Term{Kind: api.KAtom, S: "spoilt"}
	}
}

func spoilLanes(l []api.Lane) {
	l = l[:cap(l)]
	for i := range l {
		signals := l[i].Signals[:cap(l[i].Signals)]
		for j := range signals {
			spoilTerms(signals[j].Term.L)
			signals[j] = api.Signal{Kind: 77}
		}
		l[i] = api.Lane{From: 99}
	}
}

func spoilProc(p api.Proc) {
	spoilTerms(p.Inbox)
	spoilTerms(p.Reason.L)
	links, origins, targets, names := p.Links[:cap(p.Links)], p.Origins[:cap(p.Origins)], p.Targets[:cap(p.Targets)], p.Names[:cap(p.Names)]
	for i := range links {
		links[i] = api.Half{Pid: 99}
	}
	for i := range origins {
		origins[i] = api.Mon{Ref: 99}
	}
	for i := range targets {
		targets[i] = api.Mon{Ref: 99}
	}
	for i := range names {
		names[i] = "spoilt"
	}
}

// What is told is the caller's own (P2).
func TestP1803Own(t *testing.T) {
	v := furnishedAll(t)
	expectSame(t, v, "writing into what was told", func() {
		spoilTerms(v.Out())
		spoilLanes(v.Lanes())
		for n := 1; n <= 4; n++ {
			p, _ := v.Proc(n)
			spoilProc(p)
		}
		s := v.State()
		spoilTerms(s.Out)
		spoilLanes(s.Lanes)
		for _, p := range s.Procs {
			spoilProc(p)
		}
	})
	// and what goes on from it is not spoilt either
	deliver(v, 2, 1)
	expectProc(t, v, 1, "ready trap inbox[{x,[y]} {'DOWN',#Ref1,process,#Pid2,{a,[b,{c}]}}] links[3 4/1] origins[2:0=nobody] targets[3:3] names[a]")
	deliver(v, 1, 3)
	expectProc(t, v, 3, "ready inbox[{m,[1,{2}]}] links[1] origins[3:1=a]")
}

// No two lists of one answer share memory: writing into one of them leaves the others.
func TestP1803Lists(t *testing.T) {
	parts := []func(s api.State){
		func(s api.State) { spoilTerms(s.Out) },
		func(s api.State) { spoilLanes(s.Lanes) },
		func(s api.State) { spoilTerms(s.Procs[0].Inbox) },
		func(s api.State) { spoilTerms(s.Procs[1].Reason.L) },
		func(s api.State) { s.Procs[0].Links = append(s.Procs[0].Links[:0], api.Half{Pid: 9}) },
		func(s api.State) { s.Procs[0].Origins = append(s.Procs[0].Origins[:0], api.Mon{Ref: 9}) },
		func(s api.State) { s.Procs[0].Targets = append(s.Procs[0].Targets[:0], api.Mon{Ref: 9}) },
	}
	for i, spoil := range parts {
		v := furnishedAll(t)
		s, other := v.State(), v.State()
		spoil(s)
		for j, part := range []func(s api.State) string{
			func(s api.State) string { return stateText(api.State{Out: s.Out}) },
			func(s api.State) string { return stateText(api.State{Lanes: s.Lanes}) },
			func(s api.State) string { return procText(api.Proc{Inbox: s.Procs[0].Inbox}) },
			func(s api.State) string { return procText(api.Proc{Reason: s.Procs[1].Reason}) },
			func(s api.State) string { return procText(api.Proc{Links: s.Procs[0].Links}) },
			func(s api.State) string { return procText(api.Proc{Origins: s.Procs[0].Origins}) },
			func(s api.State) string { return procText(api.Proc{Targets: s.Procs[0].Targets}) },
		} {
			if (part(s) == part(other)) != (i != j) {
				t.Errorf("P2: writing into part %d: part %d is %s; it was %s", i, j, part(s), part(other))
			}
		}
	}
}

// What was told stays as it is, whatever is done behind it.
func TestP1803Stays(t *testing.T) {
	v := furnishedAll(t)
	s, p, lanes, out := v.State(), first(v.Proc(1)), v.Lanes(), v.Out()
	was := []string{stateText(s), procText(p), lanesText(lanes), stateText(api.State{Out: out})}
	for range 3 {
		for from := range 5 {
			for to := range 5 {
				deliver(v, from, to)
			}
		}
		for n := 1; n <= 4; n++ {
			run(v, n, 9)
			kill(v, n)
			collect(v, n)
		}
	}
	for i, now := range []string{stateText(s), procText(p), lanesText(lanes), stateText(api.State{Out: out})} {
		if now != was[i] {
			t.Errorf("P2: what was told is %s; it was %s", now, was[i])
		}
	}
	if stateText(v.State()) == was[0] {
		t.Errorf("nothing was done")
	}
}

func first(p api.Proc, _ bool) api.Proc { return p }

// To look changes nothing, and tells the same again (P3).
func TestP1803Again(t *testing.T) {
	v := furnishedAll(t)
	before := stateText(v.State())
	for range 3 {
		v.Proc(1)
		v.Procs()
		v.Lanes()
		v.Under()
		v.Out()
		if after := stateText(v.State()); after != before {
			t.Errorf("P3: %s; it was %s", after, before)
		}
	}
}
