package sound_test

import (
	"fmt"
	"slices"
	"strings"
	"testing"

	"exitwave/api"
	"exitwave/sound"
	"exitwave/vm"
	"exitwave/world"
)

// plenty is a configuration whose limits no test meets that does not mean to.
var plenty = api.Config{Procs: 20, Refs: 20, Words: 1000}

// waits is a fun that waits until it is told to stop.
const waits = "fun() -> receive stop -> 1 end end"

// mainly is a source whose main is a body, with what may stand behind it.
func mainly(body string, behind ...string) string {
	return "-module(m). main() -> " + body + ". " + strings.Join(behind, " ")
}

func start(t *testing.T, source string, c api.Config) *vm.VM {
	t.Helper()
	v, err := vm.New(source, c)
	if err != nil {
		t.Fatalf("P1801 %s: %v", source, err)
	}
	return v
}

// expectSound: behind a step nothing is broken, by Check and by the table in other words.
func expectSound(t *testing.T, what any, s api.State) {
	t.Helper()
	if l := sound.Check(s); len(l) > 0 || len(said(s)) > 0 {
		t.Fatalf("P2004 behind %v: %v (%v), of %+v", what, l, said(s), s)
	}
}

// Scripts that take one thing to its end, step by step.
func TestP2004Scripts(t *testing.T) {
	for _, c := range []struct{ source, script string }{
		{mainly("1"), "r 1 0 r 1 1 r 1 9 d 1 1 k 1"},
		{mainly("P = spawn_link(" + waits + "), unlink(P), link(P), unlink(P), receive stop -> 1 end"), "r 1 9 r 2 9 d 1 2 d 1 2 d 1 2 d 2 1 d 2 1 k 2 r 2 9 d 2 1"},
		{mainly("P = spawn(fun() -> receive Q -> link(Q), unlink(Q), receive stop -> 1 end end end), P ! self(), link(P), unlink(P), receive stop -> 1 end"), "r 1 9 r 2 9 d 1 2 r 2 9 d 1 2 d 2 1 d 1 2 d 2 1 d 2 1 d 1 2 c 1"},
		{mainly("link(spawn(fun() -> exit(oops) end)), process_flag(trap_exit, true), receive X -> out(X) end"), "r 2 9 r 1 9 r 2 9 d 1 2 d 2 1 r 1 9"},
		{mainly("P = spawn_link(fun() -> exit(oops) end), receive X -> X end"), "r 1 9 r 2 1 r 2 1 d 2 1 r 1 0"},
		{mainly("{P, R} = spawn_monitor(" + waits + "), exit(P, oops), demonitor(R, [flush]), monitor(process, P), receive X -> out(X) end"), "r 1 20 r 2 9 d 1 2 d 1 2 d 1 2 r 2 9 d 2 1 r 1 9"},
		{mainly("register(a, self()), monitor(process, nobody), monitor(process, a), spawn(fun() -> monitor(process, a), a ! hi, receive X -> out(X) end end), receive X -> out(X) end"), "r 1 9 d 0 1 r 2 9 d 2 1 d 2 1 r 1 9 d 1 2 r 2 9"},
		{mainly("register(a, self()), register(b, spawn(" + waits + ")), unregister(b), register(c, whereis(a)), receive stop -> 1 end"), "r 1 9 k 1 r 1 9 r 2 9 k 2 r 2 0"},
		{mainly("P = spawn_link(" + waits + "), Q = spawn_link(" + waits + "), spawn_monitor(" + waits + "), spawn_monitor(" + waits + "), P ! Q, exit(normal)"), "r 1 7 r 1 1 r 1 1 r 1 1 r 1 1 r 1 1 d 1 2 d 1 2 d 1 3 d 1 4 d 1 5 r 2 9 r 3 9"},
		{mainly("self() ! [1, 2, 3, 4], self() ! [5], register(a, self()), process_flag(trap_exit, true), link(spawn(" + waits + ")), receive stop -> 1 end"), "r 1 20 d 1 2 d 1 1 d 1 1 r 1 0 r 1 1 d 1 2"},
	} {
		for _, config := range []api.Config{plenty, {Procs: 2, Refs: 1, Words: 9}, {Procs: 1, Refs: 0, Words: 1}} {
			v := start(t, c.source, config)
			expectSound(t, c.source, v.State())
			l, e := world.Script(c.script)
			if e != api.OK {
				t.Fatalf("P1903 Script of %q: %v", c.script, e)
			}
			for _, x := range l {
				v.Do(x)
				expectSound(t, []any{c.source, x}, v.State())
			}
		}
	}
}

// asked is one thing that a worker asks, by chance.
func (r chance) asked() string {
	whom, worker, name := r.of("A", "B", "C", "self()", "whereis(n)", "n"), r.of("fun w0/0", "fun w1/0", "fun w2/0"), r.of("a", "b", "c", "n")
	return r.of(
		"link("+whom+")", "link("+whom+")", "unlink("+whom+")", "unlink("+whom+")", "begin link("+whom+"), unlink("+whom+") end", "begin link("+whom+"), unlink("+whom+"), link("+whom+") end",
		"("+whom+" ! {m, self()})", "("+whom+" ! "+whom+")", "("+name+" ! [1, 2, 3])",
		"monitor(process, "+whom+")", "monitor(process, "+name+")", "monitor(process, nobody)", "demonitor(monitor(process, "+whom+"))", "demonitor(monitor(process, "+name+"), [flush, info])",
		"spawn("+worker+")", "spawn_link("+worker+")", "spawn_monitor("+worker+")", "make_ref()",
		"exit("+whom+", "+r.of("normal", "kill", "oops", "{a, self()}")+")", "process_flag(trap_exit, "+r.of("true", "true", "false")+")",
		"register("+name+", "+whom+")", "register("+name+", self())", "unregister("+name+")",
		"(fun() -> receive X -> X after 0 -> none end end)()", "(fun() -> receive {m, X} -> link(X) after 0 -> none end end)()", "(fun() -> receive X -> X end end)()",
	)
}

// source is one whose workers do to each other whatever can be asked.
func (r chance) source() string {
	s := "-module(m). main() -> register(a, self()), catch register(b, spawn(fun w1/0)), catch register(c, spawn_link(fun w2/0)), w0()."
	for i := range 3 {
		l := []string{"A = whereis(a), B = whereis(b), C = whereis(c)"}
		for range 2 + r.Intn(9) {
			l = append(l, "out(catch "+r.asked()+")")
		}
		l = append(l, r.of("w0()", "exit(oops)", "throw(ball)", "1 / 0", "receive stop -> 1 end", "receive stop -> 1 end", "ok"))
		s += fmt.Sprintf(" w%d() -> %s.", i, strings.Join(l, ", "))
	}
	return s
}

func (r chance) config() api.Config {
	return api.Config{Procs: 1 + r.Intn(8), Refs: r.Intn(12), Words: []int{4, 30, 1000}[r.Intn(3)]}
}

// step is one by chance, mostly one that does something; deliveries are so many of forty.
func (r chance) step(s api.State, deliveries int) api.Step {
	a := r.Intn(len(s.Procs)+2) - r.Intn(2)
	switch n := r.Intn(40); {
	case n < deliveries && len(s.Lanes) > 0:
		lane := s.Lanes[r.Intn(len(s.Lanes))]
		return api.Step{Kind: api.XDeliver, A: lane.From, B: lane.To}
	case n < 37:
		return api.Step{Kind: api.XRun, A: a, N: []int{0, 1, 1, 2, 3, 5, 8, 20, 60}[r.Intn(9)]}
	case n == 37:
		return api.Step{Kind: api.XKill, A: a}
	case n == 38:
		return api.Step{Kind: api.XCollect, A: a}
	}
	return api.Step{Kind: r.Intn(9) - 2, A: a, B: r.Intn(4), N: r.Intn(9) - 2}
}

// Sources and scripts by chance: behind each step no rule is broken; where one thing more is written over, Check tells it as the table does.
func TestP2004ByChance(t *testing.T) {
	r := newChance(2004)
	seen := map[string]int{}
	for range 1500 {
		source := r.source()
		v := start(t, source, r.config())
		deliveries := []int{10, 20, 30}[r.Intn(3)]
		for range 100 {
			s := v.State()
			x := r.step(s, deliveries)
			v.Do(x)
			s = v.State()
			expectSound(t, []any{source, x}, s)
			note(seen, s)
			if r.Intn(10) == 0 {
				r.spoilt(&s)
				if got, want := sound.Check(s), said(s); !slices.Equal(got, want) {
					t.Fatalf("P2001 Check of %+v: %v; want %v", s, got, want)
				}
			}
		}
	}
	for _, what := range []string{"calmed", "calmed links", "calmed origins", "calmed targets", "names", "unlinking", "exiting", "ended", "trap", "inbox", "lanes", "downs"} {
		if seen[what] < 1000 {
			t.Errorf("runs by chance came to %s %d times: too few", what, seen[what])
		}
	}
}

// note notes what a state has, so that it can be told whether the runs go where they should.
func note(seen map[string]int, s api.State) {
	if sound.Calmed(s) {
		seen["calmed"]++
	}
	seen["lanes"] += len(s.Lanes)
	for _, p := range s.Procs {
		if sound.Calmed(s) {
			seen["calmed links"] += len(p.Links)
			seen["calmed origins"] += len(p.Origins)
			seen["calmed targets"] += len(p.Targets)
		}
		seen["names"] += len(p.Names)
		seen["inbox"] += len(p.Inbox)
		for n := range 12 {
			seen["downs"] += sound.Downs(s, p.Pid, n)
		}
		for _, h := range p.Links {
			seen["unlinking"] += h.State - api.Linked
		}
		if p.Trap {
			seen["trap"]++
		}
		seen[map[int]string{api.PReady: "ready", api.PWaiting: "waiting", api.PExiting: "exiting", api.PEnded: "ended"}[p.State]]++
	}
}

// Drained and settled, no rule is broken either; no more is delivered than Bound says.
func TestP2004Settled(t *testing.T) {
	r := newChance(20042)
	calm := 0
	for range 1000 {
		source, c := r.source(), r.config()
		v := start(t, source, c)
		var l []api.Step
		for range r.Intn(60) {
			x := r.step(v.State(), 15)
			v.Do(x)
			l = append(l, x)
		}
		s, many, err := world.Drain(source, c, l)
		if bound := sound.Bound(v.State()); err != nil || many > bound || len(told(s, 1)) > 0 {
			t.Fatalf("P1905 Drain of %s, %v: %d deliveries, %v; Bound %d", source, l, many, err, bound)
		}
		expectSound(t, source, s)
		s, is, err := world.Settle(source, c, l, 20, 60)
		if err != nil || is && !sound.Calmed(s) {
			t.Fatalf("P1902 Settle of %s, %v: %v, %+v", source, l, err, s)
		}
		expectSound(t, source, s)
		if is {
			calm++
		}
	}
	if calm < 200 {
		t.Errorf("%d of the runs by chance settled: too few", calm)
	}
}
