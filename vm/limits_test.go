package vm_test

import (
	"testing"

	"exitwave/api"
	"exitwave/vm"
)

const maxUnder = 1 << 16

// crammed has processes 1 to 3, as many as there may be, and as many signals under way, all from 3 to itself; no reference can be made.
func crammed(t *testing.T) *vm.VM {
	t.Helper()
	return cram(t, api.Config{Procs: 3, Refs: 0, Words: 1000}, maxUnder)
}

// cram lays signals under way, from 3 to itself, until there are so many.
func cram(t *testing.T, c api.Config, many int) *vm.VM {
	t.Helper()
	v := start(t, c, "spawn("+waits+"), spawn("+waits+"), f()", "f() -> f().")
	run(v, 1, 5)
	fill(t, v, many)
	return v
}

func fill(t *testing.T, v *vm.VM, many int) {
	t.Helper()
	for v.Under() < many {
		put(t, v, message(3, 3, whole(1)))
	}
}

// As many signals as may be under way, and one more: what would send one is refused, and nothing is done.
func TestP1802Full(t *testing.T) {
	process, db := atom("process"), atom("db")
	for _, c := range []struct {
		name  string
		l     []api.Term
		sends bool
	}{
		{"send", []api.Term{pid(2), whole(1)}, true},
		{"send", []api.Term{pid(1), whole(1)}, true},
		{"send", []api.Term{pid(9), whole(1)}, true},
		{"send", []api.Term{atom("three"), whole(1)}, true},
		{"exit", []api.Term{pid(2), whole(1)}, true},
		{"exit", []api.Term{pid(1), atom("kill")}, true},
		{"link", []api.Term{pid(2)}, false}, // Linked
		{"link", []api.Term{pid(1)}, false}, // itself
		{"link", []api.Term{pid(3)}, true},  // Unlinking
		{"link", []api.Term{pid(4)}, true},
		{"unlink", []api.Term{pid(2)}, true},
		{"unlink", []api.Term{pid(1)}, false},
		{"unlink", []api.Term{pid(3)}, false},
		{"unlink", []api.Term{pid(4)}, false},
		{"monitor", []api.Term{process, pid(2)}, true},
		{"monitor", []api.Term{process, pid(4)}, true},
		{"monitor", []api.Term{process, pid(1)}, false},
		{"monitor", []api.Term{process, atom("one")}, false},
		{"monitor", []api.Term{process, atom("three")}, true},
		{"monitor", []api.Term{process, db}, true},
		{"demonitor", []api.Term{ref(1)}, true},
		{"demonitor", []api.Term{ref(2)}, true},
		{"demonitor", []api.Term{ref(3)}, false}, // of nobody
		{"demonitor", []api.Term{ref(4)}, false}, // none
		{"demonitor", []api.Term{ref(1), list(atom("flush"), atom("info"))}, true},
		{"demonitor", []api.Term{ref(2), list()}, true},
		{"demonitor", []api.Term{ref(3), list(atom("info"))}, false},
		{"demonitor", []api.Term{ref(4), list(atom("flush"))}, false},
		{"spawn", []api.Term{}, false},
		{"spawn_link", []api.Term{}, false},
		{"spawn_monitor", []api.Term{}, false},
		{"make_ref", []api.Term{}, false},
		{"self", []api.Term{}, false},
		{"register", []api.Term{atom("two"), pid(2)}, false},
		{"unregister", []api.Term{atom("one")}, false},
		{"whereis", []api.Term{db}, false},
		{"is_process_alive", []api.Term{pid(2)}, false},
		{"process_flag", []api.Term{atom("trap_exit"), atom("true")}, false},
		{"out", []api.Term{whole(1)}, false},
	} {
		for _, many := range []int{maxUnder - 1, maxUnder} {
			if !c.sends && many < maxUnder {
				continue
			}
			v, fun := furnished(t)
			fill(t, v, many)
			l := c.l
			if len(c.name) >= 5 && c.name[:5] == "spawn" {
				l = []api.Term{fun}
			}
			before, under := headText(v), v.Under()
			x, e := v.Ask(1, c.name, l...)
			full := c.sends && many >= maxUnder
			if full && (e != api.ErrLimit || x.Kind != 0 || headText(v) != before || v.Under() != under) || !full && (e != api.OK || x.Kind == 0) {
				t.Errorf("P1802 %s of %v, %d being under way: %s, %v, %d", c.name, each(l, text), many, text(x), e, v.Under())
			}
			if want := under + map[bool]int{true: 1}[c.sends]; !full && v.Under() != want {
				t.Errorf("P1802 %s of %v: %d under way; want %d", c.name, each(l, text), v.Under(), want)
			}
		}
	}
}

// furnished has processes 1 to 3 and room for more; 1 is linked with 2, is being unlinked from 3, watches 2 by 1, 3 by 2 (as three), nobody by 3; reference 4 was made. It tells a fun that can be spawned.
func furnished(t *testing.T) (*vm.VM, api.Term) {
	t.Helper()
	v := start(t, plenty, "spawn_link("+waits+"), P = spawn_link("+waits+"), register(one, self()), register(three, P), unlink(P), out("+waits+"), f()", "f() -> f().")
	run(v, 1, 9)
	ask(t, v, 1, "monitor", atom("process"), pid(2))
	ask(t, v, 1, "monitor", atom("process"), atom("three"))
	ask(t, v, 1, "monitor", atom("process"), atom("nobody"))
	ask(t, v, 1, "make_ref")
	expectProc(t, v, 1, "ready links[2 3/1] origins[1:2 2:3=three 3:0=nobody] names[one]")
	return v, v.Out()[0]
}

// headText says all but the lanes.
func headText(v *vm.VM) string {
	s := api.State{Out: v.Out()}
	for n := 1; n <= v.Procs(); n++ {
		p, _ := v.Proc(n)
		s.Procs = append(s.Procs, p)
	}
	return stateText(s)
}

// An end, an answer of the dead, a SUnlinkAck are not held up.
func TestP1802NotHeldUp(t *testing.T) {
	v := three(t)
	linked(t, v)
	watched(t, v)
	watching(t, v)
	fill(t, v, maxUnder)
	put(t, v, numbered(1, 3, api.SUnlink, 1))
	deliver(v, 1, 3)
	kill(v, 2)
	run(v, 2, 9)
	expectProc(t, v, 2, "ended reason[killed]")
	put(t, v, referredNone(1, api.SLink))
	put(t, v, numbered(1, 2, api.SUnlink, 1))
	put(t, v, referred(1, 2, api.SMonitor, 9))
	for range 3 {
		deliver(v, 1, 2)
	}
	if want := maxUnder + 1 + 3 + 3; v.Under() != want {
		t.Errorf("P1802: %d under way; want %d", v.Under(), want)
	}
	expectWrong(t, v, api.ErrLimit, "send", pid(2), whole(1))
}

// As many signals as a program itself sends, and one more; room that deliveries make is taken again.
func TestP1802FullByProgram(t *testing.T) {
	v := start(t, plenty, "P = self(), out(catch f(P, 4096)), out(catch (P ! more)), out(catch (P ! more)), receive go -> out(P ! last), out(catch (P ! more)) end",
		"f(_, 0) -> ok; f(P, N) -> P ! 1, P ! 2, P ! 3, P ! 4, P ! 5, P ! 6, P ! 7, P ! 8, P ! 9, P ! 10, P ! 11, P ! 12, P ! 13, P ! 14, P ! 15, P ! go, f(P, N - 1).")
	run(v, 1, 5000)
	expectOut(t, v, "ok {'EXIT',system_limit} {'EXIT',system_limit}")
	if v.Under() != maxUnder {
		t.Fatalf("P1802: %d under way", v.Under())
	}
	for range 16 {
		deliver(v, 1, 1)
	}
	run(v, 1, 0) // up to the out behind last
	fill(t, v, maxUnder)
	run(v, 1, 9)
	expectOut(t, v, "ok {'EXIT',system_limit} {'EXIT',system_limit} last {'EXIT',system_limit}")
}

func TestP1802Outputs(t *testing.T) {
	v := start(t, plenty, "f(4096), out(catch out(more)), g()",
		"f(0) -> ok; f(N) -> out(1), out(2), out(3), out(4), out(5), out(6), out(7), out(8), out(9), out(10), out(11), out(12), out(13), out(14), out(15), out(N), f(N - 1).",
		"g() -> g().")
	run(v, 1, api.MaxFuel)
	run(v, 1, 10000)
	l := v.Out()
	if p, _ := v.Proc(1); len(l) != 1<<16 || p.State != api.PEnded || text(p.Reason) != "system_limit" {
		t.Fatalf("P1802: %d outputs; %s", len(l), procText(p))
	}
	for i, x := range l {
		want := int64(i%16 + 1)
		if want == 16 {
			want = int64(4096 - i/16)
		}
		if x.Kind != api.KInt || x.N != want {
			t.Fatalf("P1803: output %d is %s; want %d", i, text(x), want)
		}
	}
	expectWrong(t, v, api.ErrLimit, "out", whole(1))
	if len(v.Out()) != 1<<16 {
		t.Errorf("P1802: one more was laid")
	}
}

// As many processes as may be, and one more, by each way.
func TestP1802Procs(t *testing.T) {
	for _, how := range []string{"spawn", "spawn_link", "spawn_monitor"} {
		v := start(t, api.Config{Procs: 3, Refs: 2, Words: 9}, how+"("+waits+"), "+how+"("+waits+"), out(catch "+how+"("+waits+")), out(catch "+how+"(1)), receive stop -> 1 end")
		run(v, 1, 99)
		expectOut(t, v, "{'EXIT',system_limit} {'EXIT',badarg}")
		if v.Procs() != 3 {
			t.Errorf("P1802 %s: %d processes", how, v.Procs())
		}
		want := map[string]string{"spawn": "waiting", "spawn_link": "waiting links[2 3]", "spawn_monitor": "waiting origins[1:2 2:3]"}
		expectProc(t, v, 1, want[how])
	}
	v := start(t, api.Config{Procs: 1, Refs: 9, Words: 9}, "out(catch spawn("+waits+")), out(catch spawn_link("+waits+")), out(catch spawn_monitor("+waits+")), out(make_ref()), receive stop -> 1 end")
	run(v, 1, 99)
	expectOut(t, v, "{'EXIT',system_limit} {'EXIT',system_limit} {'EXIT',system_limit} #Ref1")
	expectProc(t, v, 1, "waiting")
}

// Those that have ended count: processes were made.
func TestP1802ProcsEnded(t *testing.T) {
	v := start(t, api.Config{Procs: 2, Refs: 0, Words: 9}, "spawn(fun() -> 1 end), receive go -> out(catch spawn(fun() -> 1 end)) end")
	run(v, 1, 9)
	run(v, 2, 9)
	put(t, v, message(2, 1, atom("go")))
	deliver(v, 2, 1)
	run(v, 1, 9)
	expectOut(t, v, "{'EXIT',system_limit}")
}

func TestP1802MaxProcs(t *testing.T) {
	v := start(t, api.Config{Procs: api.MaxProcs, Refs: 0, Words: 9}, "f()", "f() -> out(catch spawn(fun g/0)), f().", "g() -> 1.")
	run(v, 1, 3*(api.MaxProcs+2))
	l := v.Out()
	if v.Procs() != api.MaxProcs || len(l) < api.MaxProcs || text(l[api.MaxProcs-2]) != "#Pid1024" || text(l[api.MaxProcs-1]) != "{'EXIT',system_limit}" {
		t.Errorf("P1802: %d processes, %d outputs", v.Procs(), len(l))
	}
}

// As many references as may be, and one more, by each way.
func TestP1802RefsLimit(t *testing.T) {
	all := "out(catch make_ref()), out(catch monitor(process, self())), out(catch monitor(process, nobody)), out(catch monitor(process, whereis(p))), out(catch monitor(process, p)), out(catch monitor(process, me)), out(catch spawn_monitor(" + waits + ")), out(catch monitor(process, 1)), out(catch spawn_monitor(1))"
	v := start(t, api.Config{Procs: 9, Refs: 2, Words: 9}, "register(p, spawn("+waits+")), register(me, self()), out(make_ref()), out(make_ref()), "+all+", receive stop -> 1 end")
	run(v, 1, 99)
	const limit = " {'EXIT',system_limit}"
	expectOut(t, v, "#Ref1 #Ref2"+limit+limit+limit+limit+limit+limit+limit+" {'EXIT',badarg} {'EXIT',badarg}")
	expectProc(t, v, 1, "waiting names[me]")
	expectLanes(t, v, "")
	if v.Procs() != 2 {
		t.Errorf("P1802: %d processes", v.Procs())
	}
	for refs := range 8 {
		v := start(t, api.Config{Procs: 9, Refs: refs, Words: 9}, "register(p, spawn("+waits+")), register(me, self()), "+all+", receive stop -> 1 end")
		run(v, 1, 99)
		made := 0
		for _, x := range v.Out() {
			if x.Kind == api.KRef || x.Kind == api.KTuple && x.L[0].Kind == api.KPid {
				made++
			}
		}
		if made != min(refs, 7) {
			t.Errorf("P1802: %d references were made of %d: %s", made, refs, outText(v))
		}
	}
}

func TestP1802MaxRefs(t *testing.T) {
	v := start(t, api.Config{Procs: 1, Refs: api.MaxRefs, Words: 9}, "f(4096), out(make_ref()), out(catch make_ref())",
		"f(1) -> g(15); f(N) -> g(16), f(N - 1).", "g(0) -> 1; g(N) -> make_ref(), g(N - 1).")
	for range 4 {
		run(v, 1, api.MaxFuel)
	}
	expectOut(t, v, "#Ref65536 {'EXIT',system_limit}")
}

// An end of very many halves: if each cost as much as there are halves, this would not end for minutes.
func TestP1802ManyHalves(t *testing.T) {
	const many = 1 << 15
	v := start(t, api.Config{Procs: 2, Refs: api.MaxRefs, Words: 9}, "P = spawn("+waits+"), f(P, 32768)", "f(_, 0) -> receive stop -> 1 end; f(P, N) -> monitor(process, P), f(P, N - 1).")
	run(v, 1, api.MaxFuel)
	run(v, 1, 9)
	for range many {
		deliver(v, 1, 2)
	}
	kill(v, 1)
	kill(v, 2)
	run(v, 1, many-1)
	run(v, 2, many-1)
	if v.Under() != 2*(many-1) {
		t.Errorf("P1802: %d under way", v.Under())
	}
	expectProc(t, v, 1, "exiting reason[killed] origins[32768:2]")
	expectProc(t, v, 2, "exiting reason[killed] targets[32768:1]")
	run(v, 1, 1)
	run(v, 2, 1)
	expectProc(t, v, 1, "ended reason[killed]")
	expectProc(t, v, 2, "ended reason[killed]")
}

// Messages at the bound of words, of the greatest inbox, and terms as great as they may be.
func TestP1802Great(t *testing.T) {
	v := start(t, api.Config{Procs: 2, Refs: 0, Words: api.MaxWords + 2}, "f([1], 15)", "f(L, 0) -> P = spawn("+waits+"), P ! L, P ! L, out(L); f(L, N) -> f(L ++ L, N - 1).")
	run(v, 1, api.MaxFuel)
	expectProc(t, v, 1, "ended reason[normal]")
	deliver(v, 1, 2)
	p, _ := v.Proc(2)
	if len(p.Inbox) != 1 || len(p.Inbox[0].L) != 1<<15 || p.State != api.PReady || len(v.Out()[0].L) != 1<<15 {
		t.Fatalf("P1802: %d messages", len(p.Inbox))
	}
	deliver(v, 1, 2)
	expectProc(t, v, 2, "exiting reason[heap_limit]")
}
