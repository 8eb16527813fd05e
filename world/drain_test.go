package world_test

import (
	"fmt"
	"testing"

	"exitwave/api"
	"exitwave/world"
)

func expectDrain(t *testing.T, source, script string, many int, want string) {
	t.Helper()
	s, n, err := world.Drain(source, plenty, steps(t, script))
	expectBrief(t, "P1901 Drain", s, err, want)
	if n != many {
		t.Errorf("P1901 Drain: %d deliveries; want %d", n, many)
	}
}

// Where no lane has signals nothing is done: no process runs.
func TestP1901DrainNothing(t *testing.T) {
	source := mainly("spawn_link(" + waits + "), self() ! stop, receive stop -> out(1) end")
	expectDrain(t, source, "", 0, "1 ready, []")
	expectDrain(t, source, "r 1 9 d 1 1", 0, "1 ready [stop] 2/1, 2 ready 1/1, []")
	expectDrain(t, source, "r 1 9 d 1 1 r 2 9 k 2", 0, "1 ready [stop] 2/1, 2 exiting 1/1, []")
	expectDrain(t, source, "r 1 9 d 1 1 r 1 9 d 1 2", 0, "1 ended, 2 ready, [1]")
	expectDrain(t, source, "r 1 9 d 1 1 r 1 9", 1, "1 ended, 2 ready, [1]")
}

// A lane is emptied ahead of those behind it, whichever was filled first.
func TestP1901DrainOrder(t *testing.T) {
	source := mainly("P = spawn("+waits+"), spawn(fun() -> s(P, c), s(P, d), receive x -> 1 end end), s(P, a), s(P, b), receive x -> 1 end", "s(P, X) -> P ! X.")
	for _, script := range []string{"r 1 9 r 3 9", "r 1 5 r 3 2 r 1 9 r 3 9", "r 1 3 r 3 9 r 1 9"} {
		expectDrain(t, source, script, 4, "1 waiting, 2 ready [a,b,c,d], 3 waiting, []")
	}
}

// Lanes from one process go by To, whichever was filled first; each answer comes up ahead of the next one.
func TestP1901DrainByTo(t *testing.T) {
	source := mainly("M = self(), A = spawn(fun() -> 1 end), spawn(fun() -> process_flag(trap_exit, true), link(A), link(M), receive x -> 1 end end)")
	expectDrain(t, source, "r 1 9 r 2 9 r 3 9", 4, "1 ended, 2 ended, 3 ready [{'EXIT',#Pid1,noproc},{'EXIT',#Pid2,noproc}], []")
}

// What a delivery sends is delivered, too, ahead of later lanes: the exit from 2 comes in ahead of what 3 sent, that from 3 behind what 2 sent.
func TestP1901DrainAnswers(t *testing.T) {
	source := mainly("process_flag(trap_exit, true), M = self(), P = spawn(fun() -> 1 end), spawn(fun() -> M ! from3, receive x -> 1 end end), link(P), receive x -> 1 end")
	expectDrain(t, source, "r 1 20 k 2 r 3 9", 3,
		"1 ready [{'EXIT',#Pid2,noproc},from3], 2 exiting, 3 waiting, []")
	source = mainly("process_flag(trap_exit, true), M = self(), spawn(fun() -> M ! from2, receive x -> 1 end end), P = spawn(fun() -> 1 end), link(P), receive x -> 1 end")
	expectDrain(t, source, "r 1 20 k 3 r 2 9", 3,
		"1 ready [from2,{'EXIT',#Pid3,noproc}], 2 waiting, 3 exiting, []")
}

// A lane that comes up ahead of all others is the first one then: 1 to 2 has the answer to what 2 sent, and goes on ahead of what else 2 has sent.
func TestP1901DrainBack(t *testing.T) {
	source := mainly("P = spawn_link(fun() -> process_flag(trap_exit, true), receive M -> unlink(M), link(M), monitor(process, M), receive x -> 1 end end end), P ! self(), receive x -> 1 end")
	expectDrain(t, source, "r 1 9", 1, "1 waiting 2/1, 2 ready [#Pid1] 1/1, []")
	// unlink, link, monitor are under way; the acknowledgement is one more
	expectDrain(t, source, "r 1 9 r 2 9 d 1 2 r 2 9", 4, "1 waiting 2/1, 2 waiting 1/1, []")
	// of one that is exiting each of the three is answered
	expectDrain(t, source, "r 1 9 r 2 9 d 1 2 r 2 9 k 1", 6, "1 exiting 2/1, 2 ready [{'EXIT',#Pid1,noproc},{'DOWN',#Ref1,process,#Pid1,noproc}], []")
}

// From nobody, to itself.
func TestP1901DrainNobody(t *testing.T) {
	source := mainly("monitor(process, none), self() ! a, exit(self(), normal), monitor(process, none), receive x -> 1 end")
	expectDrain(t, source, "r 1 9", 4, "1 exiting, []")
	source = mainly("self() ! a, monitor(process, none), receive x -> 1 end")
	expectDrain(t, source, "r 1 9", 2, "1 ready [{'DOWN',#Ref1,process,none,noproc},a], []")
	expectDrain(t, source, "r 1 9 k 1", 2, "1 exiting, []")
}

// As many signals as may be under way, on one lane and on many; all of them answered.
func TestP1901DrainMany(t *testing.T) {
	c := api.Config{Procs: api.MaxProcs, Refs: api.MaxRefs, Words: 1 << 24}
	source := mainly("P = spawn("+waits+"), s(P), receive x -> 1 end", "s(P) -> case catch (P ! a) of a -> s(P); X -> out(X) end.")
	s, n, err := world.Drain(source, c, []api.Step{run(1, api.MaxFuel), run(1, 9)})
	if err != nil || n != 1<<16 || len(s.Lanes) != 0 || len(s.Procs[1].Inbox) != n || text(s.Out) != "[{'EXIT',system_limit}]" {
		t.Errorf("P1901 Drain of 1 << 16 messages: %d, %d lanes, %s, %v", n, len(s.Lanes), text(s.Out), err)
	}
	source = mainly("s(1023), receive x -> 1 end", "s(0) -> 1; s(N) -> P = spawn("+waits+"), l(P, 20), s(N - 1).", "l(P, 0) -> 1; l(P, N) -> link(P), unlink(P), l(P, N - 1).")
	s, n, err = world.Drain(source, c, []api.Step{run(1, api.MaxFuel), run(1, api.MaxFuel)})
	if err != nil || n != 1023*20*3 || len(s.Lanes) != 0 {
		t.Errorf("P1901 Drain of links: %d, %d lanes, %v; want %d", n, len(s.Lanes), err, 1023*20*3)
	}
}

// Deliveries are those of a VM whose first lane is asked for each time; no lane is left, and there are at most two for each signal.
func TestP1905ByChance(t *testing.T) {
	r := newChance(1905)
	answered, twice := 0, 0
	for range 3000 {
		source, c, l := r.source(), r.config(), r.script(60)
		s, n, err := world.Drain(source, c, l)
		v := played(t, source, c, l)
		under := v.Under()
		many := drained(v)
		if want := v.State(); err != nil || n != many || all(s) != all(want) {
			t.Fatalf("P1901 Drain of %s, %v: %s, %d, %v; want %s, %d", source, l, all(s), n, err, all(want), many)
		}
		if len(s.Lanes) != 0 || n > 2*under || n < under {
			t.Fatalf("P1905 Drain of %s, %v: %d lanes are left behind %d deliveries of %d signals", source, l, len(s.Lanes), n, under)
		}
		if n > under {
			answered++
		}
		if n > under+1 {
			twice++
		}
	}
	if answered < 500 || twice < 100 {
		t.Errorf("runs by chance came to answers %d times, to several %d times: too few", answered, twice)
	}
}

// The bound is met where each signal is answered, and only there.
func TestP1905Bound(t *testing.T) {
	for monitors := range 5 {
		for messages := range 5 {
			source := mainly(fmt.Sprintf("P = spawn(fun() -> 1 end), self() ! go, receive go -> m(P, %d), s(P, %d) end, receive x -> 1 end", monitors, messages),
				"m(P, 0) -> 1; m(P, N) -> monitor(process, P), m(P, N - 1).", "s(P, 0) -> 1; s(P, N) -> P ! a, s(P, N - 1).")
			s, n, err := world.Drain(source, plenty, steps(t, "r 1 9 r 2 9 d 1 1 r 1 99"))
			if err != nil || n != 2*monitors+messages || len(s.Procs[0].Inbox) != monitors {
				t.Errorf("P1905 Drain of %d monitors of one that ended, and %d messages to it: %d, %s, %v", monitors, messages, n, brief(s), err)
			}
		}
	}
}
