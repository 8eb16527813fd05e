package vm_test

import (
	"testing"

	"exitwave/api"
	"exitwave/vm"
)

// crowd has 1 and nine others, all ready; all but 1 will wait, when they run.
func crowd(t *testing.T) *vm.VM {
	t.Helper()
	v := start(t, plenty, "f(9)", "f(0) -> g(); f(N) -> spawn("+waits+"), f(N - 1).", "g() -> g().")
	run(v, 1, 25)
	if v.Procs() != 10 {
		t.Fatalf("%d processes", v.Procs())
	}
	return v
}

// halves gives process 2 half-links with the first ones, and lets it unlink some of them; then monitors: targets, origins, and one of nobody. All that was sent so is taken in but what is sent back for SUnlinks, and what tells of nobody.
func halves(t *testing.T, v *vm.VM, links, unlinked, origins, targets []int64) {
	t.Helper()
	for _, n := range links {
		ask(t, v, 2, "link", pid(n))
	}
	for _, n := range unlinked {
		ask(t, v, 2, "unlink", pid(n))
	}
	for _, n := range origins {
		if n == 0 {
			ask(t, v, 2, "monitor", atom("process"), atom("nobody"))
		} else {
			ask(t, v, 2, "monitor", atom("process"), pid(n))
		}
	}
	for _, n := range targets {
		ask(t, v, int(n), "monitor", atom("process"), pid(2))
		deliver(v, int(n), 2)
	}
	for n := 1; n <= v.Procs(); n++ {
		for deliver(v, 2, n); hasLane(v, 2, n); {
			deliver(v, 2, n)
		}
	}
}

func hasLane(v *vm.VM, from, to int) bool {
	for _, lane := range v.Lanes() {
		if lane.From == from && lane.To == to {
			return true
		}
	}
	return false
}

// An end sends one signal for one of fuel, half by half in their order; halves that send nothing go for none.
func TestP1802Parting(t *testing.T) {
	const acks = "4>2 ack id1, 6>2 ack id2"
	v := crowd(t)
	halves(t, v, []int64{3, 4, 5, 6}, []int64{4, 6}, []int64{7, 0, 8}, []int64{9, 10, 1})
	all := "links[3 4/1 5 6/2] origins[1:7 2:0=nobody 3:8] targets[4:9 5:10 6:1]"
	expectProc(t, v, 2, "ready "+all)
	kill(v, 2)
	before := "0>2 down ref2 noproc, "
	for _, step := range []struct {
		fuel        int
		want, lanes string
	}{
		{0, "exiting reason[killed] " + all, acks},
		{1, "exiting reason[killed] links[5 6/2] origins[1:7 2:0=nobody 3:8] targets[4:9 5:10 6:1]", "2>3 exit linked killed, " + acks},
		{0, "exiting reason[killed] links[5 6/2] origins[1:7 2:0=nobody 3:8] targets[4:9 5:10 6:1]", "2>3 exit linked killed, " + acks},
		{1, "exiting reason[killed] origins[1:7 2:0=nobody 3:8] targets[4:9 5:10 6:1]", "2>3 exit linked killed, 2>5 exit linked killed, " + acks},
		{2, "exiting reason[killed] origins[1:7 2:0=nobody 3:8] targets[6:1]", "2>3 exit linked killed, 2>5 exit linked killed, 2>9 down ref4 killed, 2>10 down ref5 killed, " + acks},
		{1, "exiting reason[killed] origins[1:7 2:0=nobody 3:8]", "2>1 down ref6 killed, 2>3 exit linked killed, 2>5 exit linked killed, 2>9 down ref4 killed, 2>10 down ref5 killed, " + acks},
		{1, "exiting reason[killed] origins[3:8]", "2>1 down ref6 killed, 2>3 exit linked killed, 2>5 exit linked killed, 2>7 demonitor ref1, 2>9 down ref4 killed, 2>10 down ref5 killed, " + acks},
		{1, "ended reason[killed]", "2>1 down ref6 killed, 2>3 exit linked killed, 2>5 exit linked killed, 2>7 demonitor ref1, 2>8 demonitor ref3, 2>9 down ref4 killed, 2>10 down ref5 killed, " + acks},
	} {
		run(v, 2, step.fuel)
		expectProc(t, v, 2, step.want)
		expectLanes(t, v, before+step.lanes)
		if t.Failed() {
			return
		}
	}
}

// Whatever the fuel of one run is: as many signals as it pays for, and those in the same order.
func TestP1802PartingAtOnce(t *testing.T) {
	want := []int{3, 5, 9, 10, 1, 7, 8} // to whom
	for fuel := range len(want) + 2 {
		v := crowd(t)
		halves(t, v, []int64{3, 4, 5, 6}, []int64{4, 6}, []int64{7, 0, 8}, []int64{9, 10, 1})
		kill(v, 2)
		before := v.Under()
		run(v, 2, fuel)
		sent := min(fuel, len(want))
		if v.Under() != before+sent {
			t.Errorf("P1802: fuel %d: %d were sent", fuel, v.Under()-before)
		}
		for i, to := range want {
			if hasLane(v, 2, to) != (i < sent) {
				t.Errorf("P1802: fuel %d: %s", fuel, lanesText(v.Lanes()))
			}
		}
		if p, _ := v.Proc(2); (p.State == api.PEnded) != (fuel >= len(want)) {
			t.Errorf("P1802: fuel %d: %s", fuel, procText(p))
		}
	}
}

// Halves that send nothing go for no fuel, also where that is all that there is, and only ahead of the first that sends.
func TestP1802PartingFree(t *testing.T) {
	for _, c := range []struct {
		links, unlinked, origins []int64
		want                     string
	}{
		{nil, nil, nil, "ended reason[killed]"},
		{[]int64{3, 4}, []int64{3, 4}, nil, "ended reason[killed]"},
		{nil, nil, []int64{0, 0}, "ended reason[killed]"},
		{[]int64{3, 4}, []int64{3, 4}, []int64{0, 0}, "ended reason[killed]"},
		{[]int64{3, 4, 5}, []int64{3, 4}, []int64{0}, "exiting reason[killed] links[5] origins[1:0=nobody]"},
		{[]int64{3, 4, 5}, []int64{4, 5}, nil, "exiting reason[killed] links[3 4/1 5/2]"},
		{[]int64{3}, []int64{3}, []int64{0, 4, 0}, "exiting reason[killed] origins[2:4 3:0=nobody]"},
	} {
		v := crowd(t)
		halves(t, v, c.links, c.unlinked, c.origins, nil)
		kill(v, 2)
		under := v.Under()
		p, _ := v.Proc(2)
		if p.State != api.PExiting || len(p.Links) != len(c.links) || len(p.Origins) != len(c.origins) {
			t.Errorf("P1802: a kill let halves go: %s", procText(p))
		}
		run(v, 2, 0)
		expectProc(t, v, 2, c.want)
		if v.Under() != under {
			t.Errorf("P1802: something was sent for no fuel: %s", lanesText(v.Lanes()))
		}
	}
	v := crowd(t)
	halves(t, v, nil, nil, nil, []int64{3})
	kill(v, 2)
	expectSame(t, v, "a run without fuel of one that has a target", func() { run(v, 2, 0) })
}

// An end in a run of its own sends with the fuel that is left then.
func TestP1802OwnEnd(t *testing.T) {
	body := "P = spawn_link(" + waits + "), Q = spawn_link(" + waits + "), unlink(P), spawn_monitor(" + waits + "), register(a, self()), process_flag(trap_exit, true), self() ! 1, exit(bye)"
	for _, c := range []struct {
		fuel  int
		want  string
		lanes string
	}{
		{9, "ready trap links[2/1 3] origins[1:4] names[a]", "1>1 message 1, 1>2 unlink id1"},
		{10, "exiting reason[bye] links[3] origins[1:4]", "1>1 message 1, 1>2 unlink id1"},
		{11, "exiting reason[bye] origins[1:4]", "1>1 message 1, 1>2 unlink id1, 1>3 exit linked bye"},
		{12, "ended reason[bye]", "1>1 message 1, 1>2 unlink id1, 1>3 exit linked bye, 1>4 demonitor ref1"},
		{99, "ended reason[bye]", "1>1 message 1, 1>2 unlink id1, 1>3 exit linked bye, 1>4 demonitor ref1"},
	} {
		v := start(t, plenty, body)
		run(v, 1, c.fuel)
		expectProc(t, v, 1, c.want)
		expectLanes(t, v, c.lanes)
		w := start(t, plenty, body)
		for range c.fuel {
			run(w, 1, 1)
		}
		if stateText(w.State()) != stateText(v.State()) {
			t.Errorf("T10: fuel %d one by one: %s; want %s", c.fuel, stateText(w.State()), stateText(v.State()))
		}
	}
}

// An end without halves is one in its own run, for no fuel; in another one's step it lasts until it runs.
func TestP1802NoHalves(t *testing.T) {
	v := start(t, plenty, "1")
	run(v, 1, 1)
	expectProc(t, v, 1, "ended reason[normal]")
	v = start(t, plenty, "1")
	kill(v, 1)
	expectProc(t, v, 1, "exiting reason[killed]")
	run(v, 1, 0)
	expectProc(t, v, 1, "ended reason[killed]")
	v = ran(t, "self() ! 1, exit(self(), oops), receive stop -> 1 end")
	deliver(v, 1, 1)
	deliver(v, 1, 1)
	expectProc(t, v, 1, "exiting reason[oops]")
	run(v, 1, 3)
	expectProc(t, v, 1, "ended reason[oops]")
}

// Name, inbox, machine and Trap are gone as soon as it ends, whatever ends it; the name may be another one's then.
func TestP1802Gone(t *testing.T) {
	ends := map[string]func(v *vm.VM){
		"killed":     func(v *vm.VM) { kill(v, 2) },
		"oops":       func(v *vm.VM) { v.Lay(exit(3, 2, atom("oops"), true)); deliver(v, 3, 2) },
		"heap_limit": func(v *vm.VM) { v.Lay(message(1, 2, list(make20()...))); deliver(v, 1, 2) },
	}
	for reason, end := range ends {
		v := start(t, api.Config{Procs: 3, Refs: 3, Words: 10}, "spawn("+waits+"), spawn("+waits+"), f()", "f() -> f().")
		run(v, 1, 5)
		linked(t, v)
		if reason != "oops" {
			trapping(t, v)
		}
		ask(t, v, 2, "register", atom("a"), pid(2))
		put(t, v, message(1, 2, atom("hi")))
		deliver(v, 1, 2)
		end(v)
		want := "exiting reason[" + reason + "]"
		if reason != "oops" { // its half-link with 3 is what ended it
			want += " links[3]"
		}
		expectProc(t, v, 2, want)
		if x := ask(t, v, 1, "whereis", atom("a")); text(x) != "undefined" {
			t.Errorf("T9: the name of one that is exiting is still %s's", text(x))
		}
		ask(t, v, 1, "register", atom("a"), pid(3))
		run(v, 2, 9)
		expectProc(t, v, 2, "ended reason["+reason+"]")
		expectProc(t, v, 3, "ready links[2] names[a]")
	}
}

func make20() []api.Term {
	l := make([]api.Term, 20)
	for i := range l {
		l[i] = whole(int64(i))
	}
	return l
}

// A reason goes along as it is: to each a copy.
func TestP1802Reasons(t *testing.T) {
	v := ran(t, "spawn_link("+waits+"), spawn_monitor("+waits+"), exit({a, [b, {c}], make_ref()})")
	expectProc(t, v, 1, "ended reason[{a,[b,{c}],#Ref2}]")
	expectLanes(t, v, "1>2 exit linked {a,[b,{c}],#Ref2}, 1>3 demonitor ref1")
	v = ran(t, "P = spawn(fun() -> receive X -> exit(X) end end), monitor(process, P), link(P), process_flag(trap_exit, true), P ! {x, 1}, receive Y -> out(Y) end, receive Z -> out(Z) end")
	for range 3 {
		deliver(v, 1, 2)
	}
	run(v, 2, 9)
	expectLanes(t, v, "2>1 exit linked {x,1}, 2>1 down ref1 {x,1}")
	deliver(v, 2, 1)
	deliver(v, 2, 1)
	run(v, 1, 9)
	expectOut(t, v, "{'EXIT',#Pid2,{x,1}} {'DOWN',#Ref1,process,#Pid2,{x,1}}")
}

// What comes to one that is exiting changes none of its halves, and what it still has to send is sent.
func TestP1802WhileParting(t *testing.T) {
	v := crowd(t)
	halves(t, v, []int64{3, 4}, nil, nil, []int64{5})
	kill(v, 2)
	run(v, 2, 1)
	put(t, v, numbered(4, 2, api.SUnlink, 1))
	put(t, v, referred(5, 2, api.SDemonitor, 1))
	put(t, v, referredNone(6, api.SLink))
	deliver(v, 4, 2)
	deliver(v, 5, 2)
	deliver(v, 6, 2)
	expectProc(t, v, 2, "exiting reason[killed] links[4] targets[1:5]")
	expectLanes(t, v, "2>3 exit linked killed, 2>4 ack id1, 2>6 exit linked noproc")
	run(v, 2, 9)
	expectProc(t, v, 2, "ended reason[killed]")
	expectLanes(t, v, "2>3 exit linked killed, 2>4 ack id1, 2>4 exit linked killed, 2>5 down ref1 killed, 2>6 exit linked noproc")
}
