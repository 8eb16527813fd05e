package vm_test

import (
	"math"
	"strings"
	"testing"

	"exitwave/api"
	"exitwave/vm"
)

// mixed has processes in all states: 1 is ready, 2 waits, 3 is exiting, 4 has ended; signals are under way from 1 to each.
func mixed(t *testing.T) *vm.VM {
	t.Helper()
	v := start(t, plenty, strings.Join([]string{
		"A = spawn(" + waits + ")", "B = spawn_link(" + waits + ")", "C = spawn(" + waits + ")",
		"A ! a", "B ! b", "C ! c", "self() ! d", "loop(A)",
	}, ", "), "loop(A) -> is_process_alive(A), loop(A).")
	run(v, 1, 20)
	run(v, 2, 9)
	kill(v, 3)
	kill(v, 4)
	run(v, 4, 0)
	want := "1: ready links[3]\n2: waiting\n3: exiting reason[killed] links[1]\n4: ended reason[killed]\nlanes: 1>1 message d, 1>2 message a, 1>3 message b, 1>4 message c\nout: \n"
	if got := stateText(v.State()); got != want {
		t.Fatalf("%s; want %s", got, want)
	}
	return v
}

var extremes = []int{math.MinInt, -1 << 32, -2, -1, 0, 5, 6, 1 << 10, 1 << 20, 1 << 32, 1<<32 + 1, 1<<32 + 2, math.MaxInt}

// Steps of no kind are nothing, whatever they name.
func TestP1802NoKind(t *testing.T) {
	v := mixed(t)
	for _, kind := range extremes {
		for a := range 5 {
			expectSame(t, v, "a step of no kind", func() { v.Do(api.Step{Kind: kind, A: a, B: 1, N: 1}) })
			expectSame(t, v, "a step of no kind", func() { v.Do(api.Step{Kind: kind, A: 1, B: a, N: 1}) })
		}
	}
}

// Steps of processes that were never made, of lanes that are not there.
func TestP1802NotThere(t *testing.T) {
	v := mixed(t)
	for _, a := range extremes {
		expectSame(t, v, "a run of one that never was", func() { run(v, a, 9) })
		expectSame(t, v, "a kill of one that never was", func() { kill(v, a) })
		expectSame(t, v, "a collection of one that never was", func() { collect(v, a) })
		expectSame(t, v, "a delivery from one that never was", func() { deliver(v, a, 1) })
		expectSame(t, v, "a delivery to one that never was", func() { deliver(v, 1, a) })
	}
	for from := range 5 {
		for to := range 5 {
			if from != 1 {
				expectSame(t, v, "a delivery of an empty lane", func() { deliver(v, from, to) })
			}
		}
	}
}

// A run is one of a process that is ready or exiting, with fuel that may be.
func TestP1802Runs(t *testing.T) {
	v := mixed(t)
	expectSame(t, v, "a run of one that waits", func() { run(v, 2, 9) })
	expectSame(t, v, "a run of one that has ended", func() { run(v, 4, 9) })
	for _, fuel := range []int{math.MinInt, -1 << 32, -1, api.MaxFuel + 1, 1<<32 + 1, math.MaxInt} {
		expectSame(t, v, "a run with fuel that may not be", func() { run(v, 1, fuel); run(v, 3, fuel) })
	}
	expectSame(t, v, "a run with no fuel, where some is needed", func() { run(v, 1, 0); run(v, 3, 0) })
	run(v, 3, 1)
	expectProc(t, v, 3, "ended reason[killed]")
	expectLanes(t, v, "1>1 message d, 1>2 message a, 1>3 message b, 1>4 message c, 3>1 exit linked killed")
}

// MaxFuel is taken as it is: so many calls, and not one more.
func TestP1802MaxFuel(t *testing.T) {
	for _, fuel := range []int{0, 1, 2, api.MaxFuel - 1, api.MaxFuel} {
		v := start(t, plenty, "f(1)", "f(N) -> register(a, self()), g(N).", "g(N) -> g(N + 1).")
		run(v, 1, fuel)
		want := "ready"
		if fuel >= 4 {
			want = "ready names[a]"
		}
		expectProc(t, v, 1, want)
	}
	v := start(t, plenty, "f(65534)", "f(0) -> 0; f(N) -> f(N - 1).")
	run(v, 1, api.MaxFuel-1)
	expectProc(t, v, 1, "ready")
	v = start(t, plenty, "f(65534)", "f(0) -> 0; f(N) -> f(N - 1).")
	run(v, 1, api.MaxFuel)
	expectProc(t, v, 1, "ended reason[normal]")
	v = start(t, plenty, "f(65535)", "f(0) -> 0; f(N) -> f(N - 1).")
	run(v, 1, api.MaxFuel)
	expectProc(t, v, 1, "ready")
}

// What a kind of step does not name is not asked for.
func TestP1802OtherFields(t *testing.T) {
	for _, other := range extremes {
		v := mixed(t)
		v.Do(api.Step{Kind: api.XDeliver, A: 1, B: 2, N: other})
		expectProc(t, v, 2, "ready inbox[a]")
		v.Do(api.Step{Kind: api.XKill, A: 2, B: other, N: other})
		expectProc(t, v, 2, "exiting reason[killed]")
		v.Do(api.Step{Kind: api.XRun, A: 2, B: other, N: 0})
		expectProc(t, v, 2, "ended reason[killed]")
		expectSame(t, v, "a collection", func() { v.Do(api.Step{Kind: api.XCollect, A: 1, B: other, N: other}) })
	}
}

// A kill ends one that is alive, and is nothing to others.
func TestP1802Kill(t *testing.T) {
	v := mixed(t)
	expectSame(t, v, "a kill of one that is exiting", func() { kill(v, 3) })
	expectSame(t, v, "a kill of one that has ended", func() { kill(v, 4) })
	kill(v, 2)
	expectProc(t, v, 2, "exiting reason[killed]")
	kill(v, 1)
	expectProc(t, v, 1, "exiting reason[killed] links[3]")
	expectLanes(t, v, "1>1 message d, 1>2 message a, 1>3 message b, 1>4 message c")
	v = ran(t, "process_flag(trap_exit, true), register(a, self()), self() ! 1, receive stop -> 1 end")
	deliver(v, 1, 1)
	expectProc(t, v, 1, "ready trap inbox[1] names[a]")
	kill(v, 1)
	expectProc(t, v, 1, "exiting reason[killed]")
	run(v, 1, 0)
	expectProc(t, v, 1, "ended reason[killed]")
}

// Signals of a lane come in their order, each by a step of its own; other lanes stay.
func TestP1802Deliver(t *testing.T) {
	v := ran(t, "P = spawn("+waits+"), Q = spawn("+waits+"), P ! 1, Q ! 2, P ! 3, self() ! 4, P ! 5, receive stop -> 1 end")
	deliver(v, 1, 2)
	expectProc(t, v, 2, "ready inbox[1]")
	expectLanes(t, v, "1>1 message 4, 1>2 message 3, 1>2 message 5, 1>3 message 2")
	deliver(v, 1, 1)
	expectProc(t, v, 1, "ready inbox[4]")
	deliver(v, 1, 2)
	deliver(v, 1, 2)
	expectProc(t, v, 2, "ready inbox[1 3 5]")
	expectSame(t, v, "a delivery of a lane that has none any more", func() { deliver(v, 1, 2) })
	expectLanes(t, v, "1>3 message 2")
	expectSame(t, v, "a delivery the other way", func() { deliver(v, 3, 1) })
}

// Each way that a machine stops.
func TestP1802Stops(t *testing.T) {
	for _, c := range []struct{ body, want string }{
		{"1", "ended reason[normal]"},
		{"exit(normal)", "ended reason[normal]"},
		{"exit(bye)", "ended reason[bye]"},
		{"exit({a, [1, {}]})", "ended reason[{a,[1,{}]}]"},
		{"error(bad)", "ended reason[bad]"},
		{"1 / 0", "ended reason[badarith]"},
		{"throw(ball)", "ended reason[{nocatch,ball}]"},
		{"1 ! 2", "ended reason[badarg]"},
		{"link(a)", "ended reason[badarg]"},
		{"exit(kill)", "ended reason[kill]"},
		{"exit(self())", "ended reason[#Pid1]"},
		{"receive a -> 1 end", "waiting"},
		{"receive a -> 1 after infinity -> 2 end", "waiting"},
		{"receive a -> 1 after 0 -> exit(late) end", "ended reason[late]"},
		{"f()", "ready"},
	} {
		v := ran(t, c.body, "f() -> f().")
		expectProc(t, v, 1, c.want)
		expectLanes(t, v, "")
	}
}

// Of a throw whose reason would be no right term the reason is system_limit.
func TestP1802ThrowDeep(t *testing.T) {
	v := start(t, plenty, "throw(f(198, []))", "f(0, X) -> X; f(N, X) -> f(N - 1, [X]).")
	run(v, 1, 1000)
	if p, _ := v.Proc(1); p.State != api.PEnded || p.Reason.Kind != api.KTuple {
		t.Errorf("P1802: a throw of 199 lists: %d, kind %d", p.State, p.Reason.Kind)
	}
	v = start(t, plenty, "throw(f(199, []))", "f(0, X) -> X; f(N, X) -> f(N - 1, [X]).")
	run(v, 1, 1000)
	expectProc(t, v, 1, "ended reason[system_limit]")
}

// A collection is nothing, wherever it stands.
func TestP1802Collect(t *testing.T) {
	v := mixed(t)
	for a := -1; a < 6; a++ {
		expectSame(t, v, "a collection", func() { collect(v, a) })
	}
	run(v, 1, 1)
	expectSame(t, v, "a collection in the midst", func() { collect(v, 1) })
}

// Fuel is spent by calls alone; what is asked goes on with what is left, also with none.
func TestP1802Fuel(t *testing.T) {
	v := start(t, plenty, "P = self(), P ! a, P ! b, out(c), P ! d, out(e)")
	run(v, 1, 1)
	expectLanes(t, v, "")
	run(v, 1, 1)
	expectLanes(t, v, "1>1 message a, 1>1 message b")
	expectOut(t, v, "")
	run(v, 1, 1)
	expectLanes(t, v, "1>1 message a, 1>1 message b, 1>1 message d")
	expectOut(t, v, "c")
	expectProc(t, v, 1, "ready")
	run(v, 1, 1)
	expectOut(t, v, "c e")
	expectProc(t, v, 1, "ended reason[normal]")
}

// What is raised may be caught, and is raised as an error.
func TestP1802Raised(t *testing.T) {
	v := ran(t, "try link(a) catch error:Word -> out({error, Word}) end, try link(a) catch exit:_ -> out(exit); throw:_ -> out(throw); error:badarg -> out(right) end, out(catch link(a))")
	expectOut(t, v, "{error,badarg} right {'EXIT',badarg}")
}
