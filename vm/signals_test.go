package vm_test

import (
	"slices"
	"strings"
	"testing"

	"exitwave/api"
	"exitwave/vm"
)

func message(from, to int, x api.Term) api.Signal {
	return api.Signal{From: from, To: to, Kind: api.SMessage, Term: x}
}

func exit(from, to int, x api.Term, link bool) api.Signal {
	return api.Signal{From: from, To: to, Kind: api.SExit, Term: x, Link: link}
}

func down(from, to, ref int, x api.Term) api.Signal {
	return api.Signal{From: from, To: to, Kind: api.SDown, Ref: ref, Term: x}
}

func numbered(from, to, kind, id int) api.Signal {
	return api.Signal{From: from, To: to, Kind: kind, Id: id}
}

func referred(from, to, kind, ref int) api.Signal {
	return api.Signal{From: from, To: to, Kind: kind, Ref: ref}
}

// put lays a signal under way.
func put(t *testing.T, v *vm.VM, s api.Signal) {
	t.Helper()
	if e := v.Lay(s); e != api.OK {
		t.Fatalf("%s: %v", signalText(s), e)
	}
}

// ask wants what is asked to be done, and tells what was told.
func ask(t *testing.T, v *vm.VM, pid int, name string, l ...api.Term) api.Term {
	t.Helper()
	x, e := v.Ask(pid, name, l...)
	if e != api.OK {
		t.Fatalf("%d asks %s of %v: %v", pid, name, each(l, text), e)
	}
	return x
}

// three has processes 1 to 3, all ready; 2 and 3 will wait, when they run.
func three(t *testing.T) *vm.VM {
	t.Helper()
	v := start(t, plenty, "spawn("+waits+"), spawn("+waits+"), f()", "f() -> f().")
	run(v, 1, 5)
	return v
}

// linked, unlinking, watching, watched: process 2 has a half, of process 3. Unlinking is by the identifier 2, and its SUnlink is still under way.
func linked(t *testing.T, v *vm.VM) {
	ask(t, v, 2, "link", pid(3))
	deliver(v, 2, 3)
}

func unlinking(t *testing.T, v *vm.VM) {
	linked(t, v)
	ask(t, v, 2, "unlink", pid(3))
	deliver(v, 2, 3)
	deliver(v, 3, 2)
	ask(t, v, 2, "link", pid(3))
	deliver(v, 2, 3)
	ask(t, v, 2, "unlink", pid(3))
}

func watching(t *testing.T, v *vm.VM) {
	ask(t, v, 2, "monitor", atom("process"), pid(3))
	deliver(v, 2, 3)
}

func watchingName(t *testing.T, v *vm.VM) {
	ask(t, v, 3, "register", atom("db"), pid(3))
	ask(t, v, 2, "monitor", atom("process"), atom("db"))
	deliver(v, 2, 3)
}

func watchingNobody(t *testing.T, v *vm.VM) {
	ask(t, v, 2, "monitor", atom("process"), atom("db"))
}

func watched(t *testing.T, v *vm.VM) {
	ask(t, v, 3, "monitor", atom("process"), pid(2))
	deliver(v, 3, 2)
}

func trapping(t *testing.T, v *vm.VM) {
	ask(t, v, 2, "process_flag", atom("trap_exit"), atom("true"))
}

type ahead = []func(*testing.T, *vm.VM)

// taken says what a signal does to process 2, behind what was done ahead: what can be seen of it then, if it was alive, and what is under way. The word `put` is ready, whatever it was; `as` is what it was.
type taken struct {
	ahead ahead
	s     api.Signal
	want  string
	lanes string
}

func rowsTaken() []taken {
	const unlink2 = "2>3 unlink id2"
	normal, oops, killing := atom("normal"), atom("oops"), atom("kill")
	return []taken{
		{nil, message(1, 2, atom("hi")), "put inbox[hi]", ""},
		{nil, message(2, 2, atom("hi")), "put inbox[hi]", ""},
		{ahead{trapping}, message(3, 2, tuple(atom("EXIT"), whole(1))), "put trap inbox[{'EXIT',1}]", ""},

		{nil, referredNone(3, api.SLink), "as links[3]", ""},
		{ahead{linked}, referredNone(3, api.SLink), "as links[3]", ""},
		{ahead{linked}, referredNone(1, api.SLink), "as links[1 3]", ""},
		{ahead{unlinking}, referredNone(3, api.SLink), "as links[3/2]", unlink2},

		{nil, numbered(3, 2, api.SUnlink, 7), "as", "2>3 ack id7"},
		{ahead{linked}, numbered(3, 2, api.SUnlink, 7), "as", "2>3 ack id7"},
		{ahead{linked}, numbered(1, 2, api.SUnlink, 1), "as links[3]", "2>1 ack id1"},
		{ahead{unlinking}, numbered(3, 2, api.SUnlink, 7), "as links[3/2]", unlink2 + ", 2>3 ack id7"},

		{nil, numbered(3, 2, api.SUnlinkAck, 2), "as", ""},
		{ahead{linked}, numbered(3, 2, api.SUnlinkAck, 1), "as links[3]", ""},
		{ahead{unlinking}, numbered(3, 2, api.SUnlinkAck, 2), "as", unlink2},
		{ahead{unlinking}, numbered(3, 2, api.SUnlinkAck, 1), "as links[3/2]", unlink2},
		{ahead{unlinking}, numbered(3, 2, api.SUnlinkAck, 3), "as links[3/2]", unlink2},
		{ahead{unlinking}, numbered(1, 2, api.SUnlinkAck, 2), "as links[3/2]", unlink2},

		{nil, exit(3, 2, oops, true), "as", ""},
		{nil, exit(3, 2, killing, true), "as", ""},
		{ahead{trapping}, exit(3, 2, oops, true), "as trap", ""},
		{ahead{linked}, exit(1, 2, oops, true), "as links[3]", ""},
		{ahead{unlinking}, exit(3, 2, oops, true), "as links[3/2]", unlink2},
		{ahead{unlinking, trapping}, exit(3, 2, oops, true), "as trap links[3/2]", unlink2},
		{ahead{linked}, exit(3, 2, oops, true), "exiting reason[oops]", ""},
		{ahead{linked}, exit(3, 2, killing, true), "exiting reason[kill]", ""},
		{ahead{linked}, exit(3, 2, normal, true), "as", ""},
		{ahead{linked, trapping}, exit(3, 2, oops, true), "put trap inbox[{'EXIT',#Pid3,oops}]", ""},
		{ahead{linked, trapping}, exit(3, 2, normal, true), "put trap inbox[{'EXIT',#Pid3,normal}]", ""},
		{ahead{linked, trapping}, exit(3, 2, killing, true), "put trap inbox[{'EXIT',#Pid3,kill}]", ""},

		{nil, exit(3, 2, oops, false), "exiting reason[oops]", ""},
		{nil, exit(3, 2, normal, false), "as", ""},
		{nil, exit(2, 2, normal, false), "exiting reason[normal]", ""},
		{nil, exit(2, 2, oops, false), "exiting reason[oops]", ""},
		{nil, exit(3, 2, killing, false), "exiting reason[killed]", ""},
		{nil, exit(2, 2, killing, false), "exiting reason[killed]", ""},
		{ahead{trapping}, exit(3, 2, oops, false), "put trap inbox[{'EXIT',#Pid3,oops}]", ""},
		{ahead{trapping}, exit(3, 2, normal, false), "put trap inbox[{'EXIT',#Pid3,normal}]", ""},
		{ahead{trapping}, exit(2, 2, normal, false), "put trap inbox[{'EXIT',#Pid2,normal}]", ""},
		{ahead{trapping}, exit(3, 2, killing, false), "exiting reason[killed]", ""},
		{ahead{linked}, exit(3, 2, oops, false), "exiting reason[oops] links[3]", ""},
		{ahead{linked}, exit(3, 2, normal, false), "as links[3]", ""},
		{ahead{linked, trapping}, exit(3, 2, oops, false), "put trap inbox[{'EXIT',#Pid3,oops}] links[3]", ""},

		{nil, referred(3, 2, api.SMonitor, 9), "as targets[9:3]", ""},
		{nil, api.Signal{From: 3, To: 2, Kind: api.SMonitor, Ref: 9, Name: "db"}, "as targets[9:3]", ""},
		{ahead{watched}, referred(3, 2, api.SMonitor, 9), "as targets[1:3 9:3]", ""},
		{ahead{watched}, referred(1, 2, api.SMonitor, 1), "as targets[1:3]", ""},
		{nil, referred(0, 2, api.SMonitor, 1), "as", ""},

		{nil, referred(3, 2, api.SDemonitor, 1), "as", ""},
		{ahead{watched}, referred(3, 2, api.SDemonitor, 1), "as", ""},
		{ahead{watched}, referred(3, 2, api.SDemonitor, 2), "as targets[1:3]", ""},
		{ahead{watching}, referred(3, 2, api.SDemonitor, 1), "as origins[1:3]", ""},

		{nil, down(3, 2, 1, oops), "as", ""},
		{ahead{watched}, down(3, 2, 1, oops), "as targets[1:3]", ""},
		{ahead{watching}, down(3, 2, 2, oops), "as origins[1:3]", ""},
		{ahead{watching}, down(3, 2, 1, oops), "put inbox[{'DOWN',#Ref1,process,#Pid3,oops}]", ""},
		{ahead{watching}, down(3, 2, 1, normal), "put inbox[{'DOWN',#Ref1,process,#Pid3,normal}]", ""},
		{ahead{watching, trapping}, down(3, 2, 1, killing), "put trap inbox[{'DOWN',#Ref1,process,#Pid3,kill}]", ""},
		{ahead{watchingName}, down(3, 2, 1, oops), "put inbox[{'DOWN',#Ref1,process,db,oops}]", ""},
		{ahead{watchingNobody}, down(1, 2, 1, oops), "put inbox[{'DOWN',#Ref1,process,db,oops}]", "0>2 down ref1 noproc"},
		{ahead{watchingNobody}, down(0, 2, 2, oops), "put inbox[{'DOWN',#Ref1,process,db,noproc}]", "0>2 down ref2 oops"},
	}
}

// referredNone is a signal to process 2 that has no field of its own.
func referredNone(from, kind int) api.Signal { return api.Signal{From: from, To: 2, Kind: kind} }

// Each kind of signal, taken in by one that is ready and by one that waits.
func TestP1802TakenIn(t *testing.T) {
	for _, waiting := range []bool{false, true} {
		for _, row := range rowsTaken() {
			v := three(t)
			was := "ready"
			if waiting {
				run(v, 2, 9)
				was = "waiting"
			}
			for _, do := range row.ahead {
				do(t, v)
			}
			put(t, v, row.s)
			others := []string{lookText(v, 1), lookText(v, 3)}
			deliver(v, row.s.From, 2)
			expectProc(t, v, 2, standing(row.want, was))
			expectLanes(t, v, row.lanes)
			expectOut(t, v, "")
			if !slices.Equal(others, []string{lookText(v, 1), lookText(v, 3)}) {
				t.Errorf("P1802: others changed from %q to %q, %q", others, lookText(v, 1), lookText(v, 3))
			}
			if t.Failed() {
				t.Fatalf("P1802 %s, waiting: %v", signalText(row.s), waiting)
			}
		}
	}
}

// standing puts the state in the place of the first word, if that is `as` or `put`.
func standing(want, was string) string {
	first, rest, _ := strings.Cut(want, " ")
	states := map[string]string{"as": was, "put": "ready", "exiting": "exiting"}
	return strings.TrimSpace(states[first] + " " + rest)
}

func lookText(v *vm.VM, pid int) string {
	p, _ := v.Proc(pid)
	return procText(p)
}

// What comes to one that is exiting, has ended or never was is answered, if at all, and changes nothing of it.
func TestP1802Dead(t *testing.T) {
	noproc := func(ref int) string { return "down ref" + string(rune('0'+ref)) + " noproc" }
	for _, row := range []struct {
		s      api.Signal
		answer string
	}{
		{message(3, 2, atom("hi")), ""},
		{referredNone(3, api.SLink), "exit linked noproc"},
		{numbered(3, 2, api.SUnlink, 7), "ack id7"},
		{numbered(3, 2, api.SUnlinkAck, 1), ""},
		{numbered(3, 2, api.SUnlinkAck, 2), ""},
		{exit(3, 2, atom("oops"), true), ""},
		{exit(3, 2, atom("oops"), false), ""},
		{exit(3, 2, atom("kill"), false), ""},
		{referred(3, 2, api.SMonitor, 1), noproc(1)},
		{api.Signal{From: 3, To: 2, Kind: api.SMonitor, Ref: 9, Name: "db"}, noproc(9)},
		{referred(3, 2, api.SDemonitor, 2), ""},
		{down(3, 2, 1, atom("oops")), ""},
	} {
		for _, c := range []struct {
			to   int
			want string
		}{{2, "exiting reason[killed] links[3] origins[1:3] targets[2:3]"}, {2, "ended reason[killed]"}, {4, ""}, {1 << 20, ""}} {
			v := three(t)
			linked(t, v)
			watching(t, v)
			watched(t, v)
			kill(v, 2)
			if c.want != "exiting reason[killed] links[3] origins[1:3] targets[2:3]" {
				run(v, 2, 9)
				for range 3 {
					deliver(v, 2, 3)
				}
			}
			row.s.To = c.to
			put(t, v, row.s)
			before := lookText(v, 3)
			deliver(v, 3, c.to)
			if c.want != "" {
				expectProc(t, v, 2, c.want)
			}
			answer := row.answer
			if answer != "" {
				answer = strings.Fields(signalText(api.Signal{From: c.to, To: 3}))[0] + " " + answer
			}
			expectLanes(t, v, answer)
			if lookText(v, 3) != before || v.Procs() != 3 {
				t.Errorf("P1802: %s became %s", before, lookText(v, 3))
			}
			if t.Failed() {
				t.Fatalf("P1802 %s to %q", signalText(row.s), c.want)
			}
		}
	}
}

// Nobody (0) is not answered.
func TestP1802DeadToNobody(t *testing.T) {
	for _, s := range []api.Signal{referredNone(0, api.SLink), numbered(0, 2, api.SUnlink, 1), referred(0, 2, api.SMonitor, 1), down(0, 2, 1, atom("noproc"))} {
		v := three(t)
		kill(v, 2)
		put(t, v, s)
		deliver(v, 0, 2)
		expectLanes(t, v, "")
		expectProc(t, v, 2, "exiting reason[killed]")
	}
}

// A message whose reason would make it too deep has system_limit in its place.
func TestP1802DeepReasons(t *testing.T) {
	deep := list()
	for range api.MaxDepth - 1 {
		deep = list(deep)
	}
	v := three(t)
	trapping(t, v)
	watching(t, v)
	put(t, v, exit(3, 2, deep, false))
	put(t, v, down(3, 2, 1, deep))
	deliver(v, 3, 2)
	deliver(v, 3, 2)
	expectProc(t, v, 2, "ready trap inbox[{'EXIT',#Pid3,system_limit} {'DOWN',#Ref1,process,#Pid3,system_limit}]")
}

// An inbox at its words, and one beyond: by each way that something is put into it.
func TestP1802Words(t *testing.T) {
	five := tuple(atom("a"), atom("b"), whole(1), atom("c")) // 5 words, and 2 more
	for _, c := range []struct {
		words int
		ahead ahead
		came  []api.Signal
		want  string
	}{
		{1, nil, []api.Signal{message(3, 2, whole(1))}, "exiting reason[heap_limit]"},
		{2, nil, []api.Signal{message(3, 2, whole(1))}, "ready inbox[1]"},
		{3, nil, []api.Signal{message(3, 2, whole(1)), message(3, 2, whole(1))}, "exiting reason[heap_limit]"},
		{4, nil, []api.Signal{message(3, 2, whole(1)), message(3, 2, whole(1))}, "ready inbox[1 1]"},
		{6, nil, []api.Signal{message(3, 2, five)}, "exiting reason[heap_limit]"},
		{7, nil, []api.Signal{message(3, 2, five)}, "ready inbox[{a,b,1,c}]"},
		{7, nil, []api.Signal{message(3, 2, five), message(3, 2, atom(""))}, "exiting reason[heap_limit]"},
		{5, ahead{trapping}, []api.Signal{exit(3, 2, atom("a"), false)}, "exiting reason[heap_limit]"},
		{6, ahead{trapping}, []api.Signal{exit(3, 2, atom("a"), false)}, "ready trap inbox[{'EXIT',#Pid3,a}]"},
		{5, ahead{linked, trapping}, []api.Signal{exit(3, 2, atom("a"), true)}, "exiting reason[heap_limit]"},
		{6, ahead{linked, trapping}, []api.Signal{exit(3, 2, atom("a"), true)}, "ready trap inbox[{'EXIT',#Pid3,a}]"},
		{9, ahead{watching}, []api.Signal{down(3, 2, 1, atom("a"))}, "exiting reason[heap_limit]"},
		{10, ahead{watching}, []api.Signal{down(3, 2, 1, atom("a"))}, "ready inbox[{'DOWN',#Ref1,process,#Pid3,a}]"},
		{1, ahead{linked}, []api.Signal{message(3, 2, whole(1))}, "exiting reason[heap_limit] links[3]"},
		{1, nil, []api.Signal{message(3, 2, whole(1)), message(3, 2, whole(2))}, "exiting reason[heap_limit]"},
	} {
		for _, waiting := range []bool{false, true} {
			v := start(t, api.Config{Procs: 3, Refs: 3, Words: c.words}, "spawn("+waits+"), spawn("+waits+"), f()", "f() -> f().")
			run(v, 1, 5)
			if waiting {
				run(v, 2, 9)
			}
			for _, do := range c.ahead {
				do(t, v)
			}
			ask(t, v, 2, "register", atom("n"), pid(2))
			for _, s := range c.came {
				put(t, v, s)
				deliver(v, s.From, s.To)
			}
			want := c.want
			if strings.HasPrefix(want, "ready") {
				want += " names[n]"
			}
			expectProc(t, v, 2, want)
			expectLanes(t, v, "")
			if t.Failed() {
				t.Fatalf("P1802: %d words, %v", c.words, each(c.came, signalText))
			}
		}
	}
}

// What a process took out of its inbox leaves room.
func TestP1802Room(t *testing.T) {
	v := start(t, api.Config{Procs: 2, Refs: 0, Words: 4}, "self() ! 1, self() ! 2, self() ! 3, f()", "f() -> receive X -> out(X), f() end.")
	run(v, 1, 99)
	deliver(v, 1, 1)
	deliver(v, 1, 1)
	run(v, 1, 1)
	expectProc(t, v, 1, "ready inbox[2]")
	deliver(v, 1, 1)
	expectProc(t, v, 1, "ready inbox[2 3]")
	run(v, 1, 99)
	expectOut(t, v, "1 2 3")
	expectProc(t, v, 1, "waiting")
}
