package exits_test

import (
	"fmt"
	"math/rand"
	"slices"
	"testing"

	"exitwave/api"
	"exitwave/ether"
	"exitwave/exits"
	"exitwave/links"
	"exitwave/mons"
)

// process is one of a crowd.
type process struct {
	links    *links.Table
	mons     *mons.Table
	state    int
	trap     bool
	reason   api.Term
	inbox    []api.Term
	unlinked map[int]bool // by pid: T3 holds
}

// watch is what became of a reference.
type watch struct {
	half   api.Mon // the origin's
	origin int
	left   bool // its origin called demonitor
	came   int  // messages that came into its origin's inbox
}

// crowd is some processes by their pids from 1 on, and what is under way between them: chapter 18, as far as it is of links, monitors and exits.
type crowd struct {
	t       *testing.T
	procs   []*process
	lanes   *ether.Ether
	watches []*watch // by their references, from 1 on
	done    []string
}

func newCrowd(t *testing.T, many int) *crowd {
	c := &crowd{t: t, lanes: ether.New()}
	for range many {
		c.procs = append(c.procs, &process{links: links.New(), mons: mons.New(), state: api.PReady, unlinked: map[int]bool{}})
	}
	return c
}

func (c *crowd) proc(pid int) *process { return c.procs[pid-1] }

// alive is false of one that never was.
func (c *crowd) alive(pid int) bool { return pid <= len(c.procs) && c.proc(pid).state == api.PReady }

func (c *crowd) send(s api.Signal) {
	if e := c.lanes.Put(s); e != api.OK {
		c.t.Fatalf("P1606 %s is no signal: %v", said(s), e)
	}
}

func (c *crowd) note(what string, n ...int) {
	c.done = append(c.done, fmt.Sprint(what, n))
}

// call is one by chance of a process that is alive; with may be one that never was.
func (c *crowd) call(r *rand.Rand, who, with int) {
	p := c.proc(who)
	switch r.Intn(7) {
	case 0, 1:
		c.note("link", who, with)
		p.unlinked[with] = false
		if p.links.Link(with) {
			c.send(api.Signal{From: who, To: with, Kind: api.SLink})
		}
	case 2:
		c.note("unlink", who, with)
		p.unlinked[with] = true
		if id, is := p.links.Unlink(with); is {
			c.send(api.Signal{From: who, To: with, Kind: api.SUnlink, Id: id})
		}
	case 3:
		c.monitor(who, with)
	case 4:
		c.demonitor(r, who)
	case 5:
		p.trap = !p.trap
		c.note("trap", who)
	case 6:
		c.note("exit", who, with)
		c.send(exitOf(who, with, false, atom([]string{"normal", "kill", "a"}[r.Intn(3)])))
	}
}

func (c *crowd) monitor(who, of int) {
	c.note("monitor", who, of)
	n := len(c.watches) + 1
	c.watches = append(c.watches, &watch{half: api.Mon{Ref: n, Pid: of}, origin: who})
	if e := c.proc(who).mons.Watch(n, of, ""); e != api.OK {
		c.t.Fatalf("P1501 Watch: %v", e)
	}
	c.send(api.Signal{From: who, To: of, Kind: api.SMonitor, Ref: n})
}

func (c *crowd) demonitor(r *rand.Rand, who int) {
	if len(c.watches) == 0 {
		return
	}
	n := 1 + r.Intn(len(c.watches))
	c.note("demonitor", who, n)
	m, is := c.proc(who).mons.Demonitor(n)
	if s, told := exits.Leave(who, m); is && told {
		c.send(s)
	}
	if is {
		c.watches[n-1].left = true
	}
}

func (c *crowd) end(pid int, reason api.Term) {
	p := c.proc(pid)
	p.state, p.reason, p.inbox, p.trap = api.PExiting, reason, nil, false
}

// leave takes out one half of one that is exiting, and sends what is told of it; without halves it has ended.
func (c *crowd) leave(who int) {
	c.note("leave", who)
	p := c.proc(who)
	if h, is := p.links.Pop(); is {
		if s, told := exits.Emit(who, p.reason, h); told {
			c.send(s)
		}
	} else if m, is := p.mons.PopTarget(); is {
		c.send(exits.Tell(who, p.reason, m))
	} else if m, is := p.mons.PopOrigin(); is {
		if s, told := exits.Leave(who, m); told {
			c.send(s)
		}
	} else {
		p.state = api.PEnded
	}
}

func (c *crowd) deliver(from, to int) {
	c.note("deliver", from, to)
	s, is := c.lanes.Take(from, to)
	switch {
	case !is:
		c.t.Fatalf("no signal from %d to %d", from, to)
	case c.alive(to):
		c.takeIn(c.proc(to), s)
	default:
		if x, told := exits.Dead(s); told {
			c.send(x)
		}
	}
}

func (c *crowd) takeIn(p *process, s api.Signal) {
	switch s.Kind {
	case api.SLink:
		if _, has := p.links.Get(s.From); !has {
			p.unlinked[s.From] = false
		}
		p.links.OnLink(s.From)
	case api.SUnlink:
		p.links.OnUnlink(s.From)
		c.send(api.Signal{From: s.To, To: s.From, Kind: api.SUnlinkAck, Id: s.Id})
	case api.SUnlinkAck:
		p.links.OnAck(s.From, s.Id)
	case api.SExit:
		if !s.Link || p.links.OnExit(s.From) {
			c.act(p, s)
		}
	case api.SMonitor:
		p.mons.OnMonitor(s.Ref, s.From)
	case api.SDemonitor:
		p.mons.OnDemonitor(s.Ref)
	case api.SDown:
		if m, is := p.mons.OnDown(s.Ref); is {
			c.hear(p, s, m)
		}
	}
}

func (c *crowd) act(p *process, s api.Signal) {
	x, e := exits.Act(s, p.trap)
	if e != api.OK || !alikeOutcome(x, acted(s, p.trap)) {
		c.t.Fatalf("P1602 Act(%s): %s, %v", said(s), said(x), e)
	}
	if s.Link && p.unlinked[s.From] && x.Kind != exits.Nothing {
		c.t.Errorf("T3: %s acts on %d", said(s), s.To)
	}
	switch x.Kind {
	case exits.Message:
		p.inbox = append(p.inbox, x.Term)
	case exits.Ends:
		c.end(s.To, x.Term)
	}
}

func (c *crowd) hear(p *process, s api.Signal, m api.Mon) {
	x, e := exits.Down(s, m)
	if e != api.OK || !alikeOutcome(x, downMessage(s, m)) {
		c.t.Fatalf("P1603 Down(%s): %s, %v", said(s), said(x), e)
	}
	p.inbox = append(p.inbox, x.Term)
	w := c.watches[m.Ref-1]
	w.came++
	if w.came > 1 || w.left || w.half != m || w.origin != s.To {
		c.t.Errorf("T5: %s, of %v", said(x), *w)
	}
}

// step is one by chance.
func (c *crowd) step(r *rand.Rand) {
	who := 1 + r.Intn(len(c.procs))
	lanes := c.lanes.Lanes()
	switch n := r.Intn(20); {
	case n < 9 && len(lanes) > 0:
		lane := lanes[r.Intn(len(lanes))]
		c.deliver(lane.From, lane.To)
	case c.proc(who).state == api.PExiting:
		c.leave(who)
	case n == 19 && c.alive(who) && r.Intn(3) == 0:
		c.note("end", who)
		c.end(who, atom("over"))
	case c.alive(who):
		with := 1 + r.Intn(len(c.procs)+1)
		if with != who {
			c.call(r, who, with)
		}
	}
}

// drain delivers all that is under way, by chance: at most twice as many as there are (T8).
func (c *crowd) drain(r *rand.Rand) {
	most := 2 * c.lanes.All()
	for ; c.lanes.All() > 0; most-- {
		if most == 0 {
			c.t.Fatalf("T8: deliveries go on behind %v", c.done)
		}
		lanes := c.lanes.Lanes()
		lane := lanes[r.Intn(len(lanes))]
		c.deliver(lane.From, lane.To)
	}
}

// settle lets all that are exiting end, and delivers what that brings.
func (c *crowd) settle(r *rand.Rand) {
	for again := true; again; {
		c.drain(r)
		again = false
		for pid := range c.procs {
			for c.proc(pid+1).state == api.PExiting {
				c.leave(pid + 1)
				again = true
			}
		}
	}
}

// check holds a crowd that has settled against T6 and T7.
func (c *crowd) check() {
	for n, p := range c.procs {
		if p.state != api.PReady {
			continue
		}
		for _, h := range p.links.All() {
			if h.State != api.Linked || !c.alive(h.Pid) {
				c.t.Errorf("T7: %d has %v", n+1, h)
			} else if back, is := c.proc(h.Pid).links.Get(n + 1); !is || back.State != api.Linked {
				c.t.Errorf("T7: %d has %v, but %d has %v", n+1, h, h.Pid, back)
			}
		}
	}
	for _, w := range c.watches {
		c.checkWatch(w)
	}
	if c.t.Failed() {
		c.t.Fatalf("behind %v", c.done)
	}
}

func (c *crowd) checkWatch(w *watch) {
	gone := !c.alive(w.half.Pid)
	if gone && c.alive(w.origin) && !w.left && w.came != 1 {
		c.t.Errorf("T6: %d messages of %v", w.came, w.half)
	}
	want := !gone && c.alive(w.origin) && !w.left
	if is := slices.Contains(c.proc(w.origin).mons.Origins(), w.half); is != want {
		c.t.Errorf("T7: origin %v: %v; want %v", w.half, is, want)
	}
	if w.half.Pid > len(c.procs) {
		return
	}
	if is := slices.Contains(c.proc(w.half.Pid).mons.Targets(), api.Mon{Ref: w.half.Ref, Pid: w.origin}); is != want {
		c.t.Errorf("T7: target of %v: %v; want %v", w.half, is, want)
	}
}

// Crowds by chance: what the dead answer and what an end sends keeps both halves alike, however it is delivered.
func TestCrowds(t *testing.T) {
	for seed := range 400 {
		r := rand.New(rand.NewSource(int64(seed)))
		c := newCrowd(t, 2+seed%4)
		for range 5 + r.Intn(150) {
			c.step(r)
			if t.Failed() {
				t.Fatalf("seed %d: behind %v", seed, c.done)
			}
		}
		c.settle(r)
		c.check()
	}
}

// A chain of links: one end goes through all of it, up to the one that traps.
func TestWave(t *testing.T) {
	const many = 20
	r := rand.New(rand.NewSource(1))
	c := newCrowd(t, many)
	for pid := 1; pid < many; pid++ {
		c.proc(pid).links.Set(pid + 1)
		c.proc(pid + 1).links.Set(pid)
	}
	c.proc(many).trap = true
	c.end(1, atom("oops"))
	c.settle(r)
	c.check()
	for pid := 1; pid < many; pid++ {
		if p := c.proc(pid); p.state != api.PEnded || !alikeTerm(p.reason, atom("oops")) {
			t.Errorf("%d: %d, %s", pid, p.state, said(p.reason))
		}
	}
	if l := c.proc(many).inbox; !c.alive(many) || len(l) != 1 || !alikeTerm(l[0], tuple(atom("EXIT"), pid(many-1), atom("oops"))) {
		t.Errorf("the last one has %s", said(l))
	}
}
