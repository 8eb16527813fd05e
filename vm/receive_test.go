package vm_test

import (
	"strings"
	"testing"

	"exitwave/vm"
)

// filled is a VM of which process 2 has had messages put into its inbox, one by one; it ran for long ahead of that, if it shall have waited.
func filled(t *testing.T, waited bool, child string, messages ...string) *vm.VM {
	t.Helper()
	v := ran(t, "P = spawn(fun() -> "+child+" end), P ! "+strings.Join(append(messages, "none"), ", P ! "))
	if waited {
		run(v, 2, 100)
	}
	for range messages {
		deliver(v, 1, 2)
	}
	return v
}

func TestP1802Receive(t *testing.T) {
	for _, c := range []struct {
		child    string
		messages string
		want     string
		out      string
	}{
		{"receive X -> out(X) end", "a b c", "ended reason[normal]", "a"},
		{"receive b -> out(b) end, receive X -> out(X) end, receive Y -> out(Y) end", "a b c", "ended reason[normal]", "b a c"},
		{"receive c -> out(c) end, receive X -> out(X) end, receive Y -> out(Y) end, receive Z -> out(Z) end", "a b c", "waiting", "c a b"},
		{"receive d -> out(d) end", "a b c", "waiting inbox[a b c]", ""},
		{"receive d -> out(d) end", "", "waiting", ""},
		{"receive d -> 1 after 0 -> out(late) end, receive X -> out(X) end, receive stop -> 1 end", "a b c", "waiting inbox[b c]", "late a"},
		{"receive b -> out(b) after 0 -> out(late) end, receive X -> out(X) after 0 -> out(late) end, receive stop -> 1 end", "a b c", "waiting inbox[c]", "b a"},
		{"receive after 0 -> out(late) end, receive X -> out(X) end, receive stop -> 1 end", "a b", "waiting inbox[b]", "late a"},
		{"receive after infinity -> out(never) end", "a b", "waiting inbox[a b]", ""},
		{"receive d -> 1 after infinity -> out(never) end", "a b", "waiting inbox[a b]", ""},
		{"receive c -> out(c); b -> out(b) end, receive stop -> 1 end", "a b c", "waiting inbox[a c]", "b"},
		{"receive X when X > 1 -> out(X) end, receive stop -> 1 end", "0 1 2 3", "waiting inbox[0 1 3]", "2"},
		{"receive X -> receive X -> out({twice,X}) end end, receive stop -> 1 end", "a b a", "waiting inbox[b]", "{twice,a}"},
		{"receive d -> 1 after 0 -> receive c -> out(c) end end, receive d -> 1 after 0 -> receive b -> out(b) end end, receive stop -> 1 end", "a b c", "waiting inbox[a]", "c b"},
	} {
		messages := strings.Fields(c.messages)
		v := filled(t, false, c.child, messages...)
		run(v, 2, 100)
		expectProc(t, v, 2, c.want)
		expectOut(t, v, c.out)
		if t.Failed() {
			t.Fatalf("P1802 %s of %s", c.child, c.messages)
		}
	}
}

// A process that waits is offered what comes, each time, and takes what it can.
func TestP1802Waits(t *testing.T) {
	v := ran(t, "P = spawn(fun() -> receive c -> out(c) end, receive X -> out(X) end, receive stop -> 1 end end), P ! a, P ! b, P ! c")
	run(v, 2, 1)
	expectProc(t, v, 2, "waiting")
	deliver(v, 1, 2)
	expectProc(t, v, 2, "ready inbox[a]")
	run(v, 2, 1)
	expectProc(t, v, 2, "waiting inbox[a]")
	deliver(v, 1, 2)
	deliver(v, 1, 2)
	expectProc(t, v, 2, "ready inbox[a b c]")
	run(v, 2, 0)
	expectProc(t, v, 2, "ready inbox[a b]")
	expectOut(t, v, "")
	run(v, 2, 1)
	expectProc(t, v, 2, "ready inbox[b]")
	expectOut(t, v, "c")
	run(v, 2, 1)
	expectProc(t, v, 2, "waiting inbox[b]")
	expectOut(t, v, "c a")
}

// A message that is put behind those that were looked at is looked at, whether the process ran in between or not.
func TestP1802Looked(t *testing.T) {
	for _, between := range []bool{false, true} {
		v := filled(t, true, "receive stop -> out(stop) end, receive X -> out(X) end, receive Y -> out(Y) end, receive Z -> 1 end", "a", "b")
		if between {
			run(v, 2, 0)
			expectProc(t, v, 2, "waiting inbox[a b]")
		}
		v.Lay(message(1, 2, atom("stop")))
		deliver(v, 1, 2) // none
		deliver(v, 1, 2)
		run(v, 2, 100)
		expectOut(t, v, "stop a b")
		expectProc(t, v, 2, "ended reason[normal]")
	}
}

// What comes between a receive that took nothing, with after 0, and the next one is offered in its turn.
func TestP1802Rewound(t *testing.T) {
	v := filled(t, false, "receive d -> 1 after 0 -> out(late) end, receive b -> out(b) end, receive X -> out(X) end, receive stop -> 1 end", "a")
	run(v, 2, 1)
	expectProc(t, v, 2, "ready inbox[a]")
	v.Lay(message(1, 2, atom("b")))
	deliver(v, 1, 2) // none
	deliver(v, 1, 2)
	run(v, 2, 100)
	expectOut(t, v, "late b a")
	expectProc(t, v, 2, "waiting inbox[none]")
}

// A receive binds what its message has, and has what was bound ahead.
func TestP1802Binds(t *testing.T) {
	v := filled(t, false, "R = make_ref(), receive {R, X} -> out(X) after 0 -> out(none) end, receive {A, B} when A =/= B -> out([B, A]) end, receive stop -> 1 end", "{1, 1}", "{1, 2}", "{2, 1}")
	run(v, 2, 100)
	expectOut(t, v, "none [2,1]")
	expectProc(t, v, 2, "waiting inbox[{1,1} {2,1}]")
}
