package mons_test

import (
	"fmt"
	"slices"
	"testing"

	"exitwave/api"
	"exitwave/ether"
	"exitwave/mons"
	"exitwave/term"
)

// watch is what became of a reference.
type watch struct {
	half   api.Mon // the origin's
	origin int
	left   bool // its origin called demonitor: with flush, so that no message is in its inbox behind it
	downs  int  // messages that are in its inbox
	came   int  // messages that ever came into it
}

// process is one of a crowd.
type process struct {
	table *mons.Table
	state int
}

// crowd is some processes by their pids from 1 on, and what is under way between them: chapter 18, as far as it is of monitors.
type crowd struct {
	procs   []*process
	lanes   *ether.Ether
	watches []*watch // by their references, from 1 on
	done    []move
}

// move is what may be done: the process that does it, and with whom, or with which reference.
type move struct {
	what   string
	who, n int
}

func newCrowd(many int) *crowd {
	c := &crowd{lanes: ether.New()}
	for range many {
		c.procs = append(c.procs, &process{mons.New(), api.PReady})
	}
	return c
}

func (c *crowd) proc(pid int) *process { return c.procs[pid-1] }

func (c *crowd) alive(pid int) bool { return c.proc(pid).state == api.PReady }

func (c *crowd) send(t *testing.T, s api.Signal) {
	t.Helper()
	if s.Kind == api.SDown {
		s.Term = term.Atom("gone")
	}
	if e := c.lanes.Put(s); e != api.OK {
		t.Fatalf("%v is no signal: %v", s, e)
	}
}

// do does a move: whether it may be done its caller knows.
func (c *crowd) do(t *testing.T, m move) {
	t.Helper()
	c.done = append(c.done, m)
	switch m.what {
	case "monitor":
		c.monitor(t, m.who, m.n)
	case "spawn":
		c.procs = append(c.procs, &process{mons.New(), api.PReady})
		ref := c.newWatch(t, m.who, len(c.procs), "")
		expectMonitor(t, c.proc(len(c.procs)).table, target(ref, m.who), api.OK)
	case "demonitor":
		c.demonitor(t, m.who, m.n)
	case "end":
		c.proc(m.who).state = api.PExiting
	case "leave":
		c.leave(t, m.who)
	case "deliver":
		c.deliver(t, m.n, m.who)
	}
	if t.Failed() {
		t.Fatalf("behind %v", c.done)
	}
}

// newWatch makes the next reference, and the origin's half.
func (c *crowd) newWatch(t *testing.T, who, of int, name string) int {
	t.Helper()
	ref := len(c.watches) + 1
	c.watches = append(c.watches, &watch{half: origin(ref, of, name), origin: who})
	expectWatch(t, c.proc(who).table, origin(ref, of, name), api.OK)
	return ref
}

// monitor of 0 is that of a name that nobody has.
func (c *crowd) monitor(t *testing.T, who, of int) {
	t.Helper()
	if of == 0 {
		ref := c.newWatch(t, who, 0, "nobody")
		c.send(t, api.Signal{To: who, Kind: api.SDown, Ref: ref})
		return
	}
	ref := c.newWatch(t, who, of, "")
	c.send(t, api.Signal{From: who, To: of, Kind: api.SMonitor, Ref: ref})
}

func (c *crowd) demonitor(t *testing.T, who, ref int) {
	t.Helper()
	w := c.watches[ref-1]
	var want api.Mon
	if w.origin == who && !w.left && w.came == 0 {
		want = w.half
	}
	expectDemonitor(t, c.proc(who).table, ref, want)
	if want.Pid != 0 {
		c.send(t, api.Signal{From: who, To: want.Pid, Kind: api.SDemonitor, Ref: ref})
	}
	if w.origin == who {
		w.left, w.downs = true, 0
	}
}

// leave takes out one half of one that is exiting, and sends what is to be sent; without halves it has ended.
func (c *crowd) leave(t *testing.T, who int) {
	t.Helper()
	p := c.proc(who)
	if m, is := p.table.PopTarget(); is {
		c.send(t, api.Signal{From: who, To: m.Pid, Kind: api.SDown, Ref: m.Ref})
	} else if m, is := p.table.PopOrigin(); is && m.Pid != 0 {
		c.send(t, api.Signal{From: who, To: m.Pid, Kind: api.SDemonitor, Ref: m.Ref})
	} else if !is {
		p.state = api.PEnded
	}
}

func (c *crowd) deliver(t *testing.T, from, to int) {
	t.Helper()
	s, _ := c.lanes.Take(from, to)
	x := c.proc(to).table
	switch {
	case !c.alive(to) && s.Kind == api.SMonitor:
		c.send(t, api.Signal{From: to, To: from, Kind: api.SDown, Ref: s.Ref})
	case !c.alive(to):
	case s.Kind == api.SMonitor:
		expectMonitor(t, x, target(s.Ref, from), api.OK)
	case s.Kind == api.SDemonitor:
		x.OnDemonitor(s.Ref)
	case s.Kind == api.SDown:
		if m, is := x.OnDown(s.Ref); is {
			c.hear(t, to, m)
		}
	}
}

// hear lays a message into an inbox, and holds it against T5.
func (c *crowd) hear(t *testing.T, who int, m api.Mon) {
	t.Helper()
	w := c.watches[m.Ref-1]
	w.came++
	w.downs++
	if m != w.half || who != w.origin || w.left || w.came > 1 {
		t.Errorf("T5: %d hears of %v the %dth time; it is %v", who, m, w.came, *w)
	}
}

// check holds a crowd against T6 and T7, if no signal is under way.
func (c *crowd) check(t *testing.T) {
	t.Helper()
	if c.lanes.All() > 0 {
		return
	}
	calm := true
	for _, p := range c.procs {
		calm = calm && p.state != api.PExiting
	}
	for _, w := range c.watches {
		gone := w.half.Pid == 0 || c.proc(w.half.Pid).state == api.PEnded
		if gone && c.alive(w.origin) && !w.left && w.downs != 1 {
			t.Errorf("T6: %d messages of %v", w.downs, w.half)
		}
		if calm {
			c.checkBoth(t, w, !gone && c.alive(w.origin) && !w.left)
		}
	}
	if t.Failed() {
		t.Fatalf("behind %v", c.done)
	}
}

// checkBoth wants both halves of a monitor, or neither.
func (c *crowd) checkBoth(t *testing.T, w *watch, want bool) {
	t.Helper()
	if is := slices.Contains(c.proc(w.origin).table.Origins(), w.half); is != want {
		t.Errorf("T7: origin %v: %v; want %v", w.half, is, want)
	}
	if w.half.Pid == 0 {
		return
	}
	if is := slices.Contains(c.proc(w.half.Pid).table.Targets(), target(w.half.Ref, w.origin)); is != want {
		t.Errorf("T7: target of %v: %v; want %v", w.half, is, want)
	}
}

// key is the same for crowds that can't be told apart from here on.
func (c *crowd) key() string {
	var l []any
	for _, p := range c.procs {
		l = append(l, p.state, p.table.Origins(), p.table.Targets())
	}
	for _, w := range c.watches {
		l = append(l, *w)
	}
	return fmt.Sprint(append(l, c.lanes.Lanes())...)
}
