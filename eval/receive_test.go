package eval_test

import (
	"testing"

	"exitwave/api"
)

func TestP1004Receive(t *testing.T) {
	m := start(t, "f(X) -> Y = 2, Z = receive {A, X} -> {A, Y}; {_, _, B} when B > Y -> B; stop -> throw(stop) end, {Z, X, Y}.", "f", whole(1))
	m.expect(5, "wait", 4)
	m.offers(atom("a"), false)
	m.offers(tuple(whole(1), whole(2)), false)
	m.offers(tuple(whole(1), float(1)), false)
	m.offers(tuple(whole(1), whole(1), whole(2)), false)
	m.expect(0, "wait", 0)
	m.offers(tuple(atom("b"), whole(1)), true)
	m.expect(0, "{{b,2},1,2}", 0)

	m = start(t, "f(X) -> receive {_, _, B} when B > X -> B; {_, _, B} -> {B}; stop -> throw(stop) end.", "f", whole(1))
	m.stops("wait")
	m.offers(tuple(whole(1), whole(1), whole(0)), true)
	m.expect(0, "{0}", 0)

	m = start(t, "f() -> try receive stop -> throw(stop); X -> X end catch Y -> {Y} end.", "f")
	m.stops("wait")
	m.offers(atom("stop"), true)
	m.stops("{stop}")

	// What all clauses bind is bound behind; each receive is a stop of its own.
	m = start(t, "f() -> receive {X} -> Y = X; X -> Y = [X] end, receive Y -> {X, Y} end.", "f")
	m.stops("wait")
	m.offers(whole(5), true)
	m.stops("wait")
	m.offers(whole(5), false)
	m.offers(list(float(5)), false)
	m.offers(list(whole(5)), true)
	m.stops("{5,[5]}")
	for _, x := range kinds() {
		m := start(t, "f() -> receive X -> X end.", "f")
		m.expect(1, "wait", 0)
		m.offers(x, true)
		m.expect(0, said(x), 0)
	}
}

func TestP1004After(t *testing.T) {
	for _, c := range []struct {
		expr, wait string
		after      api.Errno
		want       string
	}{
		{"receive {X} -> X after 0 -> none end", "wait 0", api.OK, "none"}, {"receive after 0 -> 1, {2} end", "wait 0", api.OK, "{2}"}, {"receive {X} -> X after infinity -> none end", "wait", api.ErrNone, "wait"}, {"receive after infinity -> none end", "wait", api.ErrNone, "wait"},
		{"receive {X} -> X end", "wait", api.ErrNone, "wait"}, {"Y = 3, {receive a -> 1 after 0 -> Y end, Y}", "wait 0", api.OK, "{3,3}"}, {"catch receive a -> 1 after 0 -> exit(b) end", "wait 0", api.OK, "{'EXIT',b}"}, {"receive X -> Y = X after 0 -> Y = 7, X = 8 end, {X, Y}", "wait 0", api.OK, "{8,7}"},
		{"receive after 0 -> 1 end, receive after 0 -> 2 end", "wait 0", api.OK, "wait 0"}, {"receive after 0 -> 1 end, receive a -> 2 end", "wait 0", api.OK, "wait"},
	} {
		m := start(t, "f() -> "+c.expr+".", "f")
		m.expect(1, c.wait, 0)
		m.offers(atom("no"), c.wait == "wait 0" && c.expr[:9] == "receive X")
		if c.expr[:9] == "receive X" { // it was taken: another machine is offered nothing
			m.stops("{no,no}")
			m = start(t, "f() -> "+c.expr+".", "f")
			m.stops(c.wait)
		}
		if e := m.after(); e != c.after {
			t.Errorf("P1004 %s: After: %v; want %v", c.expr, e, c.after)
		}
		m.stops(c.want)
	}
	m := start(t, "f() -> receive {X} -> X after 0 -> none end.", "f")
	m.stops("wait 0")
	m.offers(tuple(whole(1)), true)
	if e := m.after(); e != api.ErrNone {
		t.Errorf("P1004 After behind an Offer that was taken: %v", e)
	}
	m.stops("1")
}
