package eval_test

import (
	"fmt"
	"testing"

	"exitwave/api"
)

// stages: machines that have stopped in each way, and with what.
func stages(t *testing.T) map[string]*machine {
	t.Helper()
	const functions = "ask() -> {out(1)}. send() -> {a ! 1}. wait() -> receive {X} -> X end. zero() -> receive {X} -> X after 0 -> none end. done() -> 1. bad() -> exit(a). loop() -> loop()."
	all := map[string]*machine{"fresh": start(t, functions, "done")}
	for _, name := range []string{"ask", "send", "wait", "zero", "done", "bad"} {
		m := start(t, functions, name)
		m.run(2)
		all[name] = m
	}
	spent := start(t, functions, "loop")
	spent.expect(3, "spent", 0)
	all["spent"] = spent
	return all
}

// next is what each of them stops with behind that, with fuel of 2.
func next() map[string]string {
	return map[string]string{"fresh": "1", "ask": "ask out [1]", "send": "ask send [a,1]", "wait": "wait", "zero": "wait 0", "done": "1", "bad": "exit a", "spent": "spent"}
}

// Answers that are not asked for are refused, whatever they are, and change nothing.
func TestP1003NotAsked(t *testing.T) {
	for name, m := range stages(t) {
		asked, waits := name == "ask" || name == "send", name == "wait" || name == "zero"
		for _, x := range append([]api.Term{{}, whole(api.MaxInt + 1)}, kinds()...) {
			if !asked {
				if e := m.give(x); e != api.ErrNone {
					t.Errorf("P1003 %s: Give %s: %v; want none", name, said(x), e)
				}
				for _, class := range []int{0, 1, 2, 3, 4, -1} {
					if e := m.fail(class, x); e != api.ErrNone {
						t.Errorf("P1003 %s: Fail(%d, %s): %v; want none", name, class, said(x), e)
					}
				}
			}
			if !waits {
				if is, e := m.offer(x); is || e != api.ErrNone {
					t.Errorf("P1004 %s: Offer %s: %v, %v; want none", name, said(x), is, e)
				}
			}
		}
		if name != "zero" {
			if e := m.after(); e != api.ErrNone {
				t.Errorf("P1004 %s: After: %v; want none", name, e)
			}
		}
		if x, _ := m.run(2); told(x) != next()[name] {
			t.Errorf("P5 %s: %s; want %s", name, told(x), next()[name])
		}
	}
}

// Terms that are not right, classes that are none are refused, in that order, and change nothing.
func TestP1003Wrong(t *testing.T) {
	for name, m := range stages(t) {
		for _, x := range wrong() {
			for _, one := range m.all {
				if name == "ask" || name == "send" {
					if e := one.Give(x); e != api.ErrTerm {
						t.Errorf("P1003 %s: Give of a wrong term: %v; want term", name, e)
					}
					for _, class := range []int{0, 1, 2, 3, 4} {
						if e := one.Fail(class, x); e != api.ErrTerm {
							t.Errorf("P1003 %s: Fail(%d) of a wrong term: %v; want term", name, class, e)
						}
					}
				}
				if name == "wait" || name == "zero" {
					if is, e := one.Offer(x); is || e != api.ErrTerm {
						t.Errorf("P1004 %s: Offer of a wrong term: %v, %v; want term", name, is, e)
					}
				} else if is, e := one.Offer(x); is || e != api.ErrNone {
					t.Errorf("P1004 %s: Offer of a wrong term: %v, %v; want none", name, is, e)
				}
			}
		}
		if name == "ask" || name == "send" {
			for _, class := range []int{0, -1, 4, 5, 1 << 40, -1 << 40} {
				if e := m.fail(class, atom("a")); e != api.ErrArg {
					t.Errorf("P1003 %s: Fail(%d): %v; want arg", name, class, e)
				}
			}
		}
		if x, _ := m.run(2); told(x) != next()[name] {
			t.Errorf("P5 %s: %s; want %s", name, told(x), next()[name])
		}
	}
}

func TestP1003Answers(t *testing.T) {
	for _, x := range kinds() {
		m := start(t, "f() -> Y = out(1), Z = 2, g(Y, Z). g(X, 2) -> X.", "f")
		m.expect(2, "ask out [1]", 0)
		m.gives(x)
		if e := m.give(x); e != api.ErrNone {
			t.Errorf("P1003 Give twice: %v", e)
		}
		if e := m.fail(1, x); e != api.ErrNone {
			t.Errorf("P1003 Fail behind Give: %v", e)
		}
		m.expect(0, "spent", 0)
		m.expect(1, said(x), 0)
		for class := api.CError; class <= api.CThrow; class++ {
			m := start(t, "f() -> {out(1), out(2)}.", "f")
			m.expect(2, "ask out [1]", 0)
			if e := m.fail(class, x); e != api.OK {
				t.Errorf("P1003 Fail(%d, %s): %v", class, said(x), e)
			}
			if e := m.give(x); e != api.ErrNone {
				t.Errorf("P1003 Give behind Fail: %v", e)
			}
			m.expect(7, className(class)+" "+said(x), 7)
		}
	}
	for class := api.CError; class <= api.CThrow; class++ {
		m := start(t, "f() -> try out(1) catch error:X -> {error, X}; exit:X -> {exit, X}; X -> {throw, X} end.", "f")
		m.stops("ask out [1]")
		m.fail(class, whole(3))
		m.stops(fmt.Sprintf("{%s,3}", className(class)))
	}
}
