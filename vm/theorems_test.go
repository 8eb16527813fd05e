package vm_test

import (
	"fmt"
	"math/rand"
	"testing"

	"exitwave/api"
)

// way is from one process to another one.
type way struct{ from, to int }

// watch is what became of a reference.
type watch struct {
	origin, target int
	left           bool // its origin called demonitor
	flushed        bool // with flush
	came           int  // messages
}

// party is some processes that do nothing by themselves: what they ask is by chance, so that it is known who called what, and when. It is held against a model, too.
type party struct {
	*pair
	r        *rand.Rand
	many     int
	unlinked map[way]bool // from has called unlink of to, and T3 holds
	linked   map[way]int  // from has called link of to, and T4 holds: one more than the exits of to that acted since
	watches  map[int]*watch
}

func newParty(t *testing.T, r *rand.Rand, many int) *party {
	source := fmt.Sprintf("-module(m). main() -> f(%d). f(1) -> g(); f(N) -> spawn(fun g/0), f(N - 1). g() -> receive stop -> 1 end.", many)
	p := &party{pair: newPair(t, source, api.Config{Procs: many, Refs: 1000, Words: 1 << 20}), r: r, many: many,
		unlinked: map[way]bool{}, linked: map[way]int{}, watches: map[int]*watch{}}
	p.do(api.Step{Kind: api.XRun, A: 1, N: 2 * many})
	return p
}

func (p *party) proc(n int) api.Proc { return first(p.v.Proc(n)) }

func (p *party) alive(n int) bool {
	state := p.proc(n).State
	return state == api.PReady || state == api.PWaiting
}

// step is one thing by chance.
func (p *party) step() {
	q, other := 1+p.r.Intn(p.many), 1+p.r.Intn(p.many+1)
	lanes := p.v.Lanes()
	switch n := p.r.Intn(40); {
	case n < 16 && len(lanes) > 0:
		p.deliver(lanes[p.r.Intn(len(lanes))])
	case n == 16:
		p.do(api.Step{Kind: api.XKill, A: other})
	case n < 20:
		p.do(api.Step{Kind: api.XRun, A: q, N: p.r.Intn(3)})
	case !p.alive(q):
		return
	case n < 26:
		p.link(q, other)
	case n < 31:
		p.unlink(q, other)
	case n < 34:
		p.monitor(q, other)
	case n < 37:
		p.demonitor(q)
	case n == 37:
		p.ask(q, "process_flag", atom("trap_exit"), yes(p.r.Intn(2) == 0))
	case n == 38:
		p.ask(q, "exit", pid(int64(other)), atom([]string{"normal", "kill", "oops", "oops"}[p.r.Intn(4)]))
	default:
		p.ask(q, "register", atom(fmt.Sprint("n", other%3)), pid(int64(other)))
	}
}

// under counts signals of a kind on a way.
func (p *party) under(kind int, w way) int {
	many := 0
	for _, lane := range p.v.Lanes() {
		for _, s := range lane.Signals {
			if s.Kind == kind && s.From == w.from && s.To == w.to {
				many++
			}
		}
	}
	return many
}

func (p *party) link(q, other int) {
	p.ask(q, "link", pid(int64(other)))
	delete(p.unlinked, way{q, other})
	if q != other && p.under(api.SUnlink, way{other, q}) == 0 {
		p.linked[way{q, other}] = 1
	}
}

func (p *party) unlink(q, other int) {
	p.ask(q, "unlink", pid(int64(other)))
	p.unlinked[way{q, other}] = true
	delete(p.linked, way{q, other})
	delete(p.linked, way{other, q})
}

func (p *party) monitor(q, other int) {
	what := pid(int64(other))
	if p.r.Intn(3) == 0 {
		name := fmt.Sprint("n", other%3)
		what = atom(name)
		other = p.o.owner(name)
	}
	x := p.ask(q, "monitor", atom("process"), what)
	if x.Kind == api.KRef && other != q {
		p.watches[int(x.N)] = &watch{origin: q, target: other}
	}
}

func (p *party) demonitor(q int) {
	n := 1 + p.r.Intn(len(p.watches)+1)
	l := [][]api.Term{{}, {list()}, {list(atom("flush"))}, {list(atom("info"), atom("flush"))}}[p.r.Intn(4)]
	p.ask(q, "demonitor", append([]api.Term{ref(int64(n))}, l...)...)
	if w := p.watches[n]; w != nil && w.origin == q {
		w.left = true
		w.flushed = w.flushed || len(l) > 0 && len(l[0].L) > 0
	}
}

func (p *party) deliver(lane api.Lane) {
	s := lane.Signals[0]
	before := p.proc(s.To)
	p.do(api.Step{Kind: api.XDeliver, A: s.From, B: s.To})
	after := p.proc(s.To)
	w := way{s.To, s.From}
	had, has := hasHalfOf(before, s.From), hasHalfOf(after, s.From)
	switch {
	case s.Kind == api.SLink && had == 0:
		delete(p.unlinked, w)
	case s.Kind == api.SExit && s.Link:
		if p.unlinked[w] && procText(before) != procText(after) {
			p.t.Errorf("T3: %s acted: %s; it was %s", signalText(s), procText(after), procText(before))
		}
		if p.linked[w] > 0 && had == api.Linked && has == 0 {
			p.linked[w]++
		}
	case s.Kind == api.SUnlinkAck && p.linked[w] > 0 && had == api.Linked && has != api.Linked:
		p.t.Errorf("T4: %s removed a half-link: %s", signalText(s), procText(before))
	case s.Kind == api.SDown && len(after.Inbox) > len(before.Inbox):
		p.watches[s.Ref].came++
	}
}

// hasHalfOf tells the state of a half-link, 0 if there is none.
func hasHalfOf(p api.Proc, with int) int {
	for _, h := range p.Links {
		if h.Pid == with {
			return h.State
		}
	}
	return 0
}

// holds: what must be so at any time.
func (p *party) holds() {
	p.t.Helper()
	p.hold()
	expectNames(p.pair)
	expectCalm(p.pair)
	for n, w := range p.watches {
		if w.came > 1 {
			p.t.Errorf("T5: %d messages of reference %d came", w.came, n)
		}
		if !w.flushed {
			continue
		}
		for _, x := range p.proc(w.origin).Inbox {
			if isDown(x, ref(int64(n))) {
				p.t.Errorf("T5: %s is in the inbox behind a flush", text(x))
			}
		}
	}
}

// settle delivers all and lets all that are exiting end, by chance, until nothing is left.
func (p *party) settle() {
	for {
		lanes, exiting := p.v.Lanes(), []int{}
		for n := 1; n <= p.many; n++ {
			if p.proc(n).State == api.PExiting {
				exiting = append(exiting, n)
			}
		}
		switch {
		case len(lanes) > 0 && (len(exiting) == 0 || p.r.Intn(2) == 0):
			p.deliver(lanes[p.r.Intn(len(lanes))])
		case len(exiting) > 0:
			p.do(api.Step{Kind: api.XRun, A: exiting[p.r.Intn(len(exiting))], N: p.r.Intn(3)})
		default:
			return
		}
		p.holds()
	}
}

// settled: what must be so where nothing is under way, and none is exiting.
func (p *party) settled(seen map[string]int) {
	for w, n := range p.linked {
		here, there := p.alive(w.from), p.alive(w.to)
		switch {
		case !here:
			seen["T4 ended"]++
		case there && (hasHalfOf(p.proc(w.from), w.to) != api.Linked || hasHalfOf(p.proc(w.to), w.from) != api.Linked):
			p.t.Errorf("T4: %d called link(%d): %s and %s", w.from, w.to, procText(p.proc(w.from)), procText(p.proc(w.to)))
		case there:
			seen["T4 linked"]++
		case n != 2:
			p.t.Errorf("T4: %d called link(%d), which has ended: %d exits acted", w.from, w.to, n-1)
		default:
			seen["T4 acted"]++
		}
	}
	for n, w := range p.watches {
		if !p.alive(w.target) && p.alive(w.origin) && !w.left {
			seen["T6"]++
			if w.came != 1 {
				p.t.Errorf("T6: %d messages of reference %d came", w.came, n)
			}
		}
		seen["T5"] += w.came
	}
	seen["T3"] += len(p.unlinked)
}

// Whatever is called, in whatever order signals are delivered: T3 to T7, T9, and the state of the rules (T2).
func TestT3ToT9ByChance(t *testing.T) {
	r := rand.New(rand.NewSource(3))
	seen := map[string]int{}
	for range 700 {
		p := newParty(t, r, 3+r.Intn(3))
		for range 2 {
			for range 20 + r.Intn(80) {
				p.step()
				p.holds()
			}
			p.settle()
			p.settled(seen)
			p.holds()
		}
	}
	for _, what := range []string{"T3", "T4 ended", "T4 linked", "T4 acted", "T5", "T6"} {
		if seen[what] < 100 {
			t.Errorf("runs by chance came to %s %d times: too few", what, seen[what])
		}
	}
}
