package vm_test

import (
	"strings"
	"testing"

	"exitwave/api"
	"exitwave/check"
	"exitwave/vm"
)

// Each builtin that asks is done, and `!`; nothing else is.
func TestP1802Table(t *testing.T) {
	v := start(t, plenty, "1")
	names := strings.Fields("self make_ref spawn spawn_link spawn_monitor send link unlink monitor demonitor exit process_flag register unregister whereis is_process_alive out throw error spawner exits flush")
	for _, name := range names {
		for n := range 5 {
			_, _, asks := check.Builtin(name, n)
			if want := asks || name == "send" && n == 2; v.Asks(name, n) != want {
				t.Errorf("P1802 %s with %d is done: %v; want %v", name, n, !want, want)
			}
		}
	}
}

// said wants a body's outputs.
func said(t *testing.T, body, want string, behind ...string) *vm.VM {
	t.Helper()
	v := ran(t, body, behind...)
	if got := outText(v); got != want {
		t.Errorf("P1802 %s: %s; want %s", body, got, want)
	}
	return v
}

func TestP1802Self(t *testing.T) {
	v := said(t, "out(self()), spawn(fun() -> out(self()) end)", "#Pid1")
	run(v, 2, 9)
	expectOut(t, v, "#Pid1 #Pid2")
}

// References are numbered by the whole VM, whoever makes them, and by whatever way.
func TestP1802Refs(t *testing.T) {
	v := said(t, "out(make_ref()), out(make_ref()), {P, R} = spawn_monitor(fun() -> out(make_ref()) end), out(R), out(monitor(process, P)), out(monitor(process, self())), out(monitor(process, nobody))",
		"#Ref1 #Ref2 #Ref3 #Ref4 #Ref5 #Ref6")
	run(v, 2, 9)
	expectOut(t, v, "#Ref1 #Ref2 #Ref3 #Ref4 #Ref5 #Ref6 #Ref7")
}

func TestP1802Spawn(t *testing.T) {
	v := said(t, "X = 7, out(spawn(fun() -> out(X) end)), out(spawn(fun f/0))", "#Pid2 #Pid3", "f() -> out(f), exit(f).")
	expectProc(t, v, 2, "ready")
	expectProc(t, v, 3, "ready")
	run(v, 3, 9)
	run(v, 2, 9)
	expectOut(t, v, "#Pid2 #Pid3 f 7")
	expectProc(t, v, 2, "ended reason[normal]")
	expectProc(t, v, 3, "ended reason[f]")
	expectLanes(t, v, "")
	said(t, "process_flag(trap_exit, true), register(a, self()), P = spawn("+waits+"), out(P)", "#Pid2")
}

func TestP1802SpawnLink(t *testing.T) {
	v := said(t, "out(spawn_link("+waits+")), out(spawn_link("+waits+")), receive stop -> 1 end", "#Pid2 #Pid3")
	expectProc(t, v, 1, "waiting links[2 3]")
	expectProc(t, v, 2, "ready links[1]")
	expectProc(t, v, 3, "ready links[1]")
	expectLanes(t, v, "")
}

func TestP1802SpawnMonitor(t *testing.T) {
	v := said(t, "out(spawn_monitor("+waits+")), out(spawn_monitor("+waits+")), receive stop -> 1 end", "{#Pid2,#Ref1} {#Pid3,#Ref2}")
	expectProc(t, v, 1, "waiting origins[1:2 2:3]")
	expectProc(t, v, 2, "ready targets[1:1]")
	expectProc(t, v, 3, "ready targets[2:1]")
	expectLanes(t, v, "")
}

// What is no fun of the source that takes nothing is refused, and no process is made.
func TestP1802SpawnWrong(t *testing.T) {
	for _, how := range []string{"spawn", "spawn_link", "spawn_monitor"} {
		for _, fun := range []string{"1", "a", "{}", "[]", "self()", "make_ref()", "fun(X) -> X end", "fun f/1", "fun() -> 1 end()", "{fun() -> 1 end}"} {
			v := said(t, "out(catch "+how+"("+fun+")), receive stop -> 1 end", "{'EXIT',badarg}", "f(X) -> X.")
			if v.Procs() != 1 {
				t.Errorf("P1802 %s of %s made a process", how, fun)
			}
			expectProc(t, v, 1, "waiting")
		}
		v := ran(t, "X = 1, out(fun() -> X end), receive stop -> 1 end")
		right := v.Out()[0]
		for _, wrong := range []api.Term{
			{Kind: api.KFun, N: right.N}, {Kind: api.KFun, N: right.N, L: []api.Term{whole(1), whole(2)}}, {Kind: api.KFun, N: 0},
			{Kind: api.KFun, N: right.N - 1, L: right.L}, {Kind: api.KFun, N: api.MaxNodes}, {Kind: api.KFun, N: right.N + 1, L: right.L},
		} {
			expectSame(t, v, how+" of a fun that is none", func() { expectWrong(t, v, api.ErrBad, how, wrong) })
		}
		expectAnswer(t, v, how, right)
	}
}

// expectWrong wants process 1 to be refused with an error, and no term beside it.
func expectWrong(t *testing.T, v *vm.VM, want api.Errno, name string, l ...api.Term) {
	t.Helper()
	if x, e := v.Ask(1, name, l...); e != want || x.Kind != 0 {
		t.Errorf("P1802 %s of %v: %s, %v; want %v", name, each(l, text), text(x), e, want)
	}
}

// expectAnswer wants process 1 to be told something.
func expectAnswer(t *testing.T, v *vm.VM, name string, l ...api.Term) {
	t.Helper()
	if x, e := v.Ask(1, name, l...); e != api.OK || x.Kind == 0 {
		t.Errorf("P1802 %s of %v: %s, %v", name, each(l, text), text(x), e)
	}
}

func TestP1802Send(t *testing.T) {
	v := said(t, "P = spawn("+waits+"), out(P ! {a, 1}), out(self() ! b), register(me, self()), out(me ! [c]), register(other, P), out(other ! 2.0), receive stop -> 1 end",
		"{a,1} b [c] #4000000000000000")
	expectLanes(t, v, "1>1 message b, 1>1 message [c], 1>2 message {a,1}, 1>2 message #4000000000000000")
	expectProc(t, v, 1, "waiting names[me]")
	said(t, "out(catch (nobody ! 1)), out(catch (undefined ! 1)), out(catch ('' ! 1)), out(catch (1 ! 1)), out(catch ({} ! 1)), out(catch (make_ref() ! 1)), out(catch ([self()] ! 1))",
		strings.TrimSpace(strings.Repeat("{'EXIT',badarg} ", 7)))
	v = ran(t, "P = spawn(fun() -> 1 end), register(a, P), receive stop -> out(catch (a ! 1)), out(P ! 2) end")
	run(v, 2, 9)
	put(t, v, message(2, 1, atom("stop")))
	deliver(v, 2, 1)
	run(v, 1, 9)
	expectOut(t, v, "{'EXIT',badarg} 2")
	expectLanes(t, v, "1>2 message 2")
}

func TestP1802Link(t *testing.T) {
	v := said(t, "P = spawn("+waits+"), out(link(P)), out(link(P)), out(link(self())), out(unlink(self())), receive stop -> 1 end", "true true true true")
	expectProc(t, v, 1, "waiting links[2]")
	expectProc(t, v, 2, "ready")
	expectLanes(t, v, "1>2 link")
	v = said(t, "P = spawn("+waits+"), link(P), out(unlink(P)), out(unlink(P)), receive stop -> 1 end", "true true")
	expectProc(t, v, 1, "waiting links[2/1]")
	expectLanes(t, v, "1>2 link, 1>2 unlink id1")
	v = said(t, "P = spawn_link("+waits+"), unlink(P), out(link(P)), unlink(P), out(link(P)), receive stop -> 1 end", "true true")
	expectProc(t, v, 1, "waiting links[2]")
	expectLanes(t, v, "1>2 unlink id1, 1>2 link, 1>2 unlink id2, 1>2 link")
	v = said(t, "P = spawn("+waits+"), Q = spawn("+waits+"), out(unlink(P)), link(P), link(Q), unlink(Q), unlink(P), receive stop -> 1 end", "true")
	expectProc(t, v, 1, "waiting links[2/2 3/1]")
	expectLanes(t, v, "1>2 link, 1>2 unlink id2, 1>3 link, 1>3 unlink id1")
}

func TestP1802Monitor(t *testing.T) {
	v := said(t, "P = spawn("+waits+"), register(a, P), register(b, self()), out(monitor(process, P)), out(monitor(process, a)), out(monitor(process, nobody)), out(monitor(process, self())), out(monitor(process, b)), out(monitor(process, undefined)), out(monitor(process, P)), receive stop -> 1 end",
		"#Ref1 #Ref2 #Ref3 #Ref4 #Ref5 #Ref6 #Ref7")
	expectProc(t, v, 1, "waiting origins[1:2 2:2=a 3:0=nobody 6:0=undefined 7:2] names[b]")
	expectProc(t, v, 2, "ready names[a]")
	expectLanes(t, v, "0>1 down ref3 noproc, 0>1 down ref6 noproc, 1>2 monitor ref1, 1>2 monitor ref2 by a, 1>2 monitor ref7")
	deliver(v, 0, 1)
	expectProc(t, v, 1, "ready inbox[{'DOWN',#Ref3,process,nobody,noproc}] origins[1:2 2:2=a 6:0=undefined 7:2] names[b]")
	for range 3 {
		deliver(v, 1, 2)
	}
	expectProc(t, v, 2, "ready targets[1:1 2:1 7:1] names[a]")
}

// A name is asked for when the monitor is: who has it later does not matter.
func TestP1802MonitorName(t *testing.T) {
	v := ran(t, "P = spawn("+waits+"), Q = spawn("+waits+"), register(a, P), monitor(process, a), unregister(a), register(a, Q), receive X -> out(X) end")
	deliver(v, 1, 2)
	expectProc(t, v, 2, "ready targets[1:1]")
	kill(v, 2)
	run(v, 2, 9)
	deliver(v, 2, 1)
	run(v, 1, 9)
	expectOut(t, v, "{'DOWN',#Ref1,process,a,killed}")
}

func TestP1802Demonitor(t *testing.T) {
	v := said(t, "{P, R} = spawn_monitor("+waits+"), out(demonitor(R)), out(demonitor(R)), N = monitor(process, nobody), out(demonitor(N)), out(demonitor(make_ref())), receive stop -> 1 end", "true true true true")
	expectProc(t, v, 1, "waiting")
	expectLanes(t, v, "0>1 down ref2 noproc, 1>2 demonitor ref1")
	expectSame(t, v, "a down of what is watched no more", func() { deliver(v, 0, 1); put(t, v, down(0, 1, 2, atom("noproc"))) })
	deliver(v, 1, 2)
	expectProc(t, v, 2, "ready")
}

// With info it is told whether there was one; with flush, if there was none, its messages go.
func TestP1802DemonitorBy(t *testing.T) {
	for _, c := range []struct {
		options string
		down    bool // it came ahead
		told    string
		inbox   string
	}{
		{"[]", false, "true", "inbox[a b]"},
		{"[flush]", false, "true", "inbox[a b]"},
		{"[info]", false, "true", "inbox[a b]"},
		{"[flush, info]", false, "true", "inbox[a b]"},
		{"[]", true, "true", "inbox[a D b]"},
		{"[flush]", true, "true", "inbox[a b]"},
		{"[info]", true, "false", "inbox[a D b]"},
		{"[flush, info]", true, "false", "inbox[a b]"},
		{"[info, flush, info, flush]", true, "false", "inbox[a b]"},
	} {
		v := ran(t, "{P, R} = spawn_monitor(fun() -> receive stop -> exit(x) end end), receive {go, X} -> out(demonitor(R, "+c.options+")), receive stop -> 1 end end")
		put(t, v, message(3, 1, atom("a")))
		put(t, v, message(3, 1, atom("b")))
		deliver(v, 3, 1)
		if c.down {
			kill(v, 2)
			run(v, 2, 9)
			deliver(v, 2, 1)
		}
		deliver(v, 3, 1)
		put(t, v, message(3, 1, tuple(atom("go"), whole(1))))
		deliver(v, 3, 1)
		run(v, 1, 9)
		expectOut(t, v, c.told)
		expectProc(t, v, 1, "waiting "+strings.Replace(c.inbox, "D", "{'DOWN',#Ref1,process,#Pid2,killed}", 1))
		want := "1>2 demonitor ref1"
		if c.down {
			want = ""
		}
		expectLanes(t, v, want)
		if t.Failed() {
			t.Fatalf("P1802 demonitor with %s, down: %v", c.options, c.down)
		}
	}
}

// What a flush takes out: all tuples of five whose first two are 'DOWN' and the reference, and nothing else.
func TestP1802Flush(t *testing.T) {
	v := ran(t, "R = make_ref(), make_ref(), receive {go, X} -> demonitor(R, [flush]), receive stop -> 1 end end")
	five := func(a, b api.Term) api.Term { return tuple(a, b, whole(1), list(), tuple()) }
	stay := []api.Term{
		five(atom("DOWN"), ref(2)), five(atom("Down"), ref(1)), five(atom("DOWN"), whole(1)), five(atom("DOWN"), pid(1)), five(atom("DOWN"), atom("")),
		five(list(), ref(1)), tuple(atom("DOWN"), ref(1)), tuple(atom("DOWN"), ref(1), whole(1), whole(2)), tuple(atom("DOWN"), ref(1), whole(1), whole(2), whole(3), whole(4)),
		list(atom("DOWN"), ref(1), whole(1), whole(2), whole(3)), atom("DOWN"), ref(1), tuple(), list(), five(ref(1), atom("DOWN")), tuple(five(atom("DOWN"), ref(1))),
		{Kind: api.KFun, L: []api.Term{atom("DOWN"), ref(1), whole(1), whole(2), whole(3)}}, five(tuple(atom("DOWN")), tuple(ref(1))), five(api.Term{Kind: api.KFloat}, ref(1)),
	}
	for _, x := range stay {
		for _, y := range []api.Term{x, five(atom("DOWN"), ref(1))} {
			put(t, v, message(3, 1, y))
			deliver(v, 3, 1)
		}
	}
	put(t, v, message(3, 1, tuple(atom("go"), whole(1))))
	deliver(v, 3, 1)
	if p, _ := v.Proc(1); len(p.Inbox) != 2*len(stay)+1 {
		t.Fatalf("P1802: %d messages", len(p.Inbox))
	}
	run(v, 1, 9)
	expectProc(t, v, 1, "waiting inbox["+strings.Join(each(stay, text), " ")+"]")
}

// Where there was one a flush takes nothing out: what looks like its message is another one's.
func TestP1802FlushForged(t *testing.T) {
	forged := tuple(atom("DOWN"), ref(1), atom("process"), pid(2), atom("forged"))
	for _, c := range []struct{ options, want string }{
		{"[flush]", "waiting inbox[{'DOWN',#Ref1,process,#Pid2,forged}]"},
		{"[info, flush]", "waiting inbox[{'DOWN',#Ref1,process,#Pid2,forged}]"},
	} {
		v := ran(t, "{P, R} = spawn_monitor("+waits+"), receive go -> out(demonitor(R, "+c.options+")), receive again -> out(demonitor(R, "+c.options+")), receive stop -> 1 end end end")
		for _, x := range []api.Term{forged, atom("go"), atom("again")} {
			put(t, v, message(2, 1, x))
		}
		deliver(v, 2, 1)
		deliver(v, 2, 1)
		run(v, 1, 9)
		expectProc(t, v, 1, c.want)
		expectOut(t, v, "true")
		deliver(v, 2, 1)
		run(v, 1, 9)
		expectProc(t, v, 1, "waiting")
	}
	v := three(t)
	ask(t, v, 2, "monitor", atom("process"), atom("nobody")) // one of nobody is one, too
	put(t, v, message(3, 2, forged))
	deliver(v, 3, 2)
	ask(t, v, 2, "demonitor", ref(1), list(atom("flush")))
	expectProc(t, v, 2, "ready inbox[{'DOWN',#Ref1,process,#Pid2,forged}]")
}

func TestP1802Exit(t *testing.T) {
	v := said(t, "P = spawn("+waits+"), out(exit(P, normal)), out(exit(P, {a, 1})), out(exit(self(), bye)), out(exit(P, kill)), receive stop -> 1 end", "true true true true")
	expectLanes(t, v, "1>1 exit bye, 1>2 exit normal, 1>2 exit {a,1}, 1>2 exit kill")
	deliver(v, 1, 2)
	expectProc(t, v, 2, "ready")
	deliver(v, 1, 2)
	expectProc(t, v, 2, "exiting reason[{a,1}]")
	deliver(v, 1, 1)
	expectProc(t, v, 1, "exiting reason[bye]")
}

func TestP1802Flag(t *testing.T) {
	v := said(t, "out(process_flag(trap_exit, true)), out(process_flag(trap_exit, true)), out(process_flag(trap_exit, false)), out(process_flag(trap_exit, false)), process_flag(trap_exit, true), receive stop -> 1 end", "false true true false")
	expectProc(t, v, 1, "waiting trap")
	said(t, "out(catch process_flag(trap, true)), out(catch process_flag(1, true)), out(catch process_flag(trap_exit, 1)), out(catch process_flag(trap_exit, yes)), out(catch process_flag(trap_exit, [])), out(process_flag(trap_exit, false))",
		strings.Repeat("{'EXIT',badarg} ", 5)+"false")
}

func TestP1802Register(t *testing.T) {
	v := said(t, "P = spawn("+waits+"), out(register(a, self())), out(whereis(a)), out(register(b, P)), out(whereis(b)), out(whereis(c)), out(whereis('')), out(whereis(undefined)), out(unregister(b)), out(whereis(b)), out(register(c, P)), receive stop -> 1 end",
		"true #Pid1 true #Pid2 undefined undefined undefined true undefined true")
	expectProc(t, v, 1, "waiting names[a]")
	expectProc(t, v, 2, "ready names[c]")
	said(t, "P = spawn("+waits+"), register(a, self()), out(catch register(a, P)), out(catch register(b, self())), out(catch register('', P)), out(catch register(undefined, P)), out(catch register(1, P)), out(catch register(b, b)), out(catch register(b, 2)), out(catch unregister(b)), out(catch unregister(1)), out(catch unregister([])), out(catch whereis(1)), out(catch whereis(self())), out(register(b, P)), out(whereis(a))",
		strings.Repeat("{'EXIT',badarg} ", 12)+"true #Pid1")
}

// Only one that is alive can have a name.
func TestP1802RegisterDead(t *testing.T) {
	v := three(t)
	kill(v, 2)
	expectWrong(t, v, api.ErrBad, "register", atom("a"), pid(2))
	run(v, 2, 0)
	expectWrong(t, v, api.ErrBad, "register", atom("a"), pid(2))
	expectWrong(t, v, api.ErrBad, "register", atom("a"), pid(4))
	expectWrong(t, v, api.ErrBad, "register", atom("a"), pid(1<<20))
	run(v, 3, 9)
	expectProc(t, v, 3, "waiting")
	expectAnswer(t, v, "register", atom("a"), pid(3))
	expectProc(t, v, 3, "waiting names[a]")
}

func TestP1802Alive(t *testing.T) {
	v := mixed(t)
	for n, want := range map[int64]string{1: "true", 2: "true", 3: "false", 4: "false", 5: "false", 1 << 20: "false"} {
		if x := ask(t, v, 1, "is_process_alive", pid(n)); text(x) != want {
			t.Errorf("P1802 is_process_alive of %d: %s; want %s", n, text(x), want)
		}
	}
}

func TestP1802Out(t *testing.T) {
	v := said(t, "out(out(a)), out({b, [1]}), out(\"c\"), out([])", "a true {b,[1]} [99] []")
	expectProc(t, v, 1, "ended reason[normal]")
}

// samples are terms of all kinds, pids beyond what a pid may be among them.
var samples = []api.Term{
	whole(1), whole(0), {Kind: api.KFloat, F: 1}, atom("nobody"), atom(""), atom("true"), ref(1), ref(0), {Kind: api.KFun, N: 3},
	pid(0), pid(1<<20 + 1), pid(1 << 32), pid(1<<32 + 1), pid(1 << 40), tuple(), tuple(pid(1)), list(), list(pid(1)), list(atom("flush")), list(ref(1)),
}

// What is not of the kind that is spoken of is refused, and nothing is done; also where limits are met, since that comes first.
func TestP1802Wrong(t *testing.T) {
	isAtom := func(x api.Term) bool { return x.Kind == api.KAtom }
	isRef := func(x api.Term) bool { return x.Kind == api.KRef }
	never := func(api.Term) bool { return false }
	isOptions := func(x api.Term) bool { return x.Kind == api.KList && (len(x.L) == 0 || x.L[0].S == "flush") }
	p, process := pid(2), atom("process")
	roomy, full := three(t), crammed(t)
	for _, c := range []struct {
		name  string
		front []api.Term
		fits  func(api.Term) bool
		back  []api.Term
	}{
		{"spawn", nil, never, nil},
		{"spawn_link", nil, never, nil},
		{"spawn_monitor", nil, never, nil},
		{"send", nil, never, []api.Term{whole(1)}},
		{"link", nil, never, nil},
		{"unlink", nil, never, nil},
		{"monitor", nil, never, []api.Term{p}},
		{"monitor", []api.Term{process}, func(x api.Term) bool { return isAtom(x) && x.S != "" }, nil},
		{"demonitor", nil, isRef, nil},
		{"demonitor", nil, isRef, []api.Term{list()}},
		{"demonitor", []api.Term{ref(1)}, isOptions, nil},
		{"exit", nil, never, []api.Term{whole(1)}},
		{"process_flag", nil, never, []api.Term{atom("true")}},
		{"process_flag", []api.Term{atom("trap_exit")}, func(x api.Term) bool { return x.S == "true" }, nil},
		{"register", nil, func(x api.Term) bool { return isAtom(x) && x.S != "" }, []api.Term{p}},
		{"register", []api.Term{atom("a")}, never, nil},
		{"unregister", nil, never, nil},
		{"whereis", nil, isAtom, nil},
		{"is_process_alive", nil, never, nil},
	} {
		for _, x := range samples {
			if c.fits(x) {
				continue
			}
			l := append(append(append([]api.Term{}, c.front...), x), c.back...)
			for _, v := range []*vm.VM{roomy, full} {
				before, under := headText(v), v.Under()
				expectWrong(t, v, api.ErrBad, c.name, l...)
				if headText(v) != before || v.Under() != under {
					t.Errorf("P1802 %s of %v did something", c.name, each(l, text))
				}
			}
		}
	}
}

// Options of demonitor that are none, alone and behind others.
func TestP1802Options(t *testing.T) {
	v := three(t)
	ask(t, v, 1, "monitor", atom("process"), pid(2))
	for _, l := range []api.Term{
		list(atom("x")), list(atom("flush"), atom("x")), list(atom("x"), atom("info")), list(list()), list(atom("flush"), list(atom("info"))),
		tuple(atom("flush")), atom("flush"), atom("info"), list(atom("Flush")), list(whole(1)), list(atom("")), list(atom("flush"), atom("info"), whole(1)),
	} {
		expectSame(t, v, "options that are none", func() { expectWrong(t, v, api.ErrBad, "demonitor", ref(1), l) })
	}
	if x := ask(t, v, 1, "demonitor", ref(1), list(atom("info"))); text(x) != "true" {
		t.Errorf("P1802: %s", text(x))
	}
}

// Pids at the bounds: 1 and 1 << 20 are some, whether a process has them or not.
func TestP1802Pids(t *testing.T) {
	for _, n := range []int64{1, 2, 3, 4, 1 << 10, 1<<20 - 1, 1 << 20} {
		v := three(t)
		expectAnswer(t, v, "send", pid(n), whole(1))
		expectAnswer(t, v, "link", pid(n))
		expectAnswer(t, v, "unlink", pid(n))
		expectAnswer(t, v, "monitor", atom("process"), pid(n))
		expectAnswer(t, v, "exit", pid(n), whole(1))
		expectAnswer(t, v, "is_process_alive", pid(n))
		want := 5
		if n == 1 {
			want = 2
		}
		if v.Under() != want {
			t.Errorf("P1802: of pid %d %s", n, lanesText(v.Lanes()))
		}
	}
}
