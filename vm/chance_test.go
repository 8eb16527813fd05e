package vm_test

import (
	"fmt"
	"math/rand"
	"strings"
	"testing"

	"exitwave/api"
)

// writer writes a source by chance: workers that do to each other whatever can be asked.
type writer struct {
	*rand.Rand
	workers int
	vars    int
}

func (w *writer) of(l ...string) string { return l[w.Intn(len(l))] }

func (w *writer) worker() string { return fmt.Sprintf("fun w%d/0", w.Intn(w.workers)) }

func (w *writer) name() string { return w.of("n0", "n1", "n2", "n2") }

// bound is a variable that has a value.
func (w *writer) bound() string { return fmt.Sprintf("V%d", w.Intn(w.vars)+1) }

// whom is mostly a process.
func (w *writer) whom() string {
	return w.of("V1", "V2", "V3", "V1", "V2", "V3", "self()", w.bound(), w.bound(), "whereis("+w.name()+")", w.name(), "element(1, "+w.bound()+")")
}

func (w *writer) fun() string {
	switch w.Intn(5) {
	case 0:
		return "fun() -> " + w.action() + ", " + w.action() + " end"
	case 1:
		return "fun() -> receive {m, Got} -> " + w.of("link(Got)", "exit(Got, x)", "out(Got ! {m, self()})", "monitor(process, Got)") + ", receive stop -> 1 end end end"
	case 2:
		return w.of("1", "fun(X) -> X end", w.bound())
	}
	return w.worker()
}

func (w *writer) reason() string {
	return w.of("normal", "kill", "oops", "{a, 1}", "self()", w.bound())
}

// asked is one thing that a process may be asked.
func (w *writer) asked() string {
	ref := w.of(w.bound(), w.bound(), w.bound(), "element(2, "+w.bound()+")", "make_ref()", "1")
	return w.of(
		"self()", "make_ref()", "spawn("+w.fun()+")", "spawn_link("+w.fun()+")", "spawn_monitor("+w.fun()+")", "spawn_link("+w.fun()+")",
		"("+w.whom()+" ! {m, self()})", "("+w.whom()+" ! "+w.bound()+")", "("+w.whom()+" ! {stop, [1, 2, 3]})",
		"link("+w.whom()+")", "link("+w.whom()+")", "unlink("+w.whom()+")", "unlink("+w.whom()+")", "begin link(V1), unlink(V1) end", "begin link(V2), unlink(V2) end", "begin link(V3), unlink(V3), link(V3) end",
		"monitor(process, "+w.whom()+")", "monitor(process, "+w.whom()+")", "monitor(process, "+w.name()+")", "monitor("+w.of("process", "x")+", "+w.of("''", "1", "nobody")+")",
		"demonitor("+ref+")", "demonitor("+ref+", "+w.of("[flush]", "[info]", "[flush, info]", "[]", "[x]", "flush")+")",
		"exit("+w.whom()+", "+w.reason()+")", "exit("+w.whom()+", "+w.reason()+")",
		"process_flag(trap_exit, "+w.of("true", "true", "false", "1")+")", "process_flag("+w.of("trap_exit", "trap")+", true)",
		"register("+w.of(w.name(), w.name(), w.name(), "undefined", "1")+", "+w.whom()+")", "register("+w.name()+", self())",
		"unregister("+w.name()+")", "whereis("+w.name()+")", "is_process_alive("+w.whom()+")", "out("+w.bound()+")",
	)
}

// received stands in a fun, so that what it binds is nothing to what is behind it.
func (w *writer) received() string {
	clauses := w.of("{m, _} -> m", "{m, P} -> P", "X -> X", "stop -> 1", "{'DOWN', _, _, _, R} -> R; {'EXIT', E, _} -> E", "{'EXIT', E, _} -> E", "{_, L} when L > 1 -> L")
	return "(fun() -> receive " + clauses + w.of("", " after 0 -> none", " after 0 -> none", " after infinity -> 1") + " end end)()"
}

// action is one of a worker. Each stands alone: what it binds is its own variable.
func (w *writer) action() string {
	switch w.Intn(12) {
	case 0, 1, 2:
		return "out(catch " + w.asked() + ")"
	case 3:
		return "out(catch " + w.received() + ")"
	case 4:
		return "catch " + w.asked()
	}
	return "none"
}

func (w *writer) statement() string {
	switch w.Intn(20) {
	case 0, 1, 2, 3:
		return w.action()
	case 4, 5:
		x := w.received()
		w.vars++
		return fmt.Sprintf("V%d = %s", w.vars, x)
	case 6:
		return w.of("w0()", "exit("+w.reason()+")", "throw(ball)", "1 / 0", "none", "none", "none")
	}
	x := w.asked()
	w.vars++
	return fmt.Sprintf("V%d = (catch %s), out(V%d)", w.vars, x, w.vars)
}

func (w *writer) source() string {
	var b strings.Builder
	b.WriteString("-module(m). main() -> catch register(n0, self()), catch register(n1, spawn(fun w1/0)), catch register(n2, spawn_link(fun w2/0)), w0().")
	for i := range w.workers {
		w.vars = 3
		l := []string{"V1 = whereis(n0), V2 = whereis(n1), V3 = whereis(n2)"}
		for range 4 + w.Intn(9) {
			l = append(l, w.statement())
		}
		l = append(l, w.of("w0()", "w1()", fmt.Sprintf("w%d()", i), "receive stop -> 1 end", "ok", "ok"))
		fmt.Fprintf(&b, " w%d() -> %s.", i, strings.Join(l, ", "))
	}
	return b.String()
}

// step is one by chance, mostly one that does something.
func step(r *rand.Rand, s api.State) api.Step {
	a := r.Intn(len(s.Procs)+2) - r.Intn(2)
	switch n := r.Intn(40); {
	case n < 18 || n < 36 && len(s.Lanes) == 0:
		return api.Step{Kind: api.XRun, A: a, N: []int{0, 1, 1, 2, 3, 5, 8, 20, -1, 60}[r.Intn(10)]}
	case n < 28 && len(s.Lanes) > 0:
		lane := s.Lanes[r.Intn(len(s.Lanes))]
		return api.Step{Kind: api.XDeliver, A: lane.From, B: lane.To}
	case n == 36:
		return api.Step{Kind: api.XKill, A: a}
	case n == 37:
		return api.Step{Kind: api.XCollect, A: a}
	case n == 38:
		return api.Step{Kind: api.XDeliver, A: a, B: r.Intn(4)}
	}
	return api.Step{Kind: r.Intn(9) - 2, A: a, B: r.Intn(4), N: r.Intn(9)}
}

// configBy is that of a run by chance: most limits are met soon.
func configBy(r *rand.Rand) api.Config {
	return api.Config{Procs: 3 + r.Intn(6), Refs: r.Intn(12), Words: []int{6, 30, 200, 1000}[r.Intn(4)]}
}

// Sources and scripts by chance: behind each step the state is that of the rules (T2), and what must hold of each state holds.
func TestT2ByChance(t *testing.T) {
	r := rand.New(rand.NewSource(18))
	seen := map[string]int{}
	for range 700 {
		w := &writer{Rand: r, workers: 3 + r.Intn(3)}
		p := newPair(t, w.source(), configBy(r))
		p.hold()
		for range 120 {
			p.do(step(r, p.v.State()))
			p.hold()
			expectNames(p)
			expectCalm(p)
			count(p.v.State(), seen)
		}
		expectDrained(p)
	}
	for _, what := range []string{"ready", "waiting", "exiting", "ended", "inbox", "links", "unlinking", "origins", "targets", "names", "trap", "heap_limit", "system_limit", "lanes"} {
		if seen[what] < 1000 {
			t.Errorf("runs by chance came to %s %d times: too few", what, seen[what])
		}
	}
}

// count notes what a state has, so that it can be told whether the runs go where they should.
func count(s api.State, seen map[string]int) {
	all := stateText(s)
	for _, what := range []string{"ready", "waiting", "exiting", "ended", "inbox", "links", "origins", "targets", "names", "trap", "heap_limit", "system_limit"} {
		seen[what] += strings.Count(all, what)
	}
	seen["lanes"] += len(s.Lanes)
	for _, p := range s.Procs {
		for _, h := range p.Links {
			if h.State == api.Unlinking {
				seen["unlinking"]++
			}
		}
	}
}

// expectNames: a name has one process at most, which is alive (T9).
func expectNames(p *pair) {
	p.t.Helper()
	owners := map[string]int{}
	for _, q := range p.v.State().Procs {
		for _, name := range q.Names {
			if owners[name] != 0 || q.State == api.PExiting || q.State == api.PEnded || len(q.Names) > 1 {
				p.t.Fatalf("T9: %s is %d's and %d's: %s", name, owners[name], q.Pid, procText(q))
			}
			owners[name] = q.Pid
		}
	}
}

// expectCalm: where no signal is under way, and no process is exiting, halves have their other halves (T7).
func expectCalm(p *pair) {
	p.t.Helper()
	s := p.v.State()
	for _, q := range s.Procs {
		if len(s.Lanes) > 0 || q.State == api.PExiting {
			return
		}
	}
	for _, q := range s.Procs {
		for _, h := range q.Links {
			if h.State != api.Linked || !hasHalf(s, h.Pid, q.Pid) {
				p.t.Fatalf("T7: %d has a half-link with %d alone: %s", q.Pid, h.Pid, stateText(s))
			}
		}
		for _, m := range q.Origins {
			if !hasMon(s, m.Pid, api.Mon{Ref: m.Ref, Pid: q.Pid}, false) {
				p.t.Fatalf("T7: %d has an origin %d alone: %s", q.Pid, m.Ref, stateText(s))
			}
		}
		for _, m := range q.Targets {
			if !hasMon(s, m.Pid, api.Mon{Ref: m.Ref, Pid: q.Pid}, true) {
				p.t.Fatalf("T7: %d has a target %d alone: %s", q.Pid, m.Ref, stateText(s))
			}
		}
	}
}

func hasHalf(s api.State, pid, with int) bool {
	if pid > len(s.Procs) || s.Procs[pid-1].State == api.PEnded {
		return false
	}
	for _, h := range s.Procs[pid-1].Links {
		if h.Pid == with && h.State == api.Linked {
			return true
		}
	}
	return false
}

func hasMon(s api.State, pid int, want api.Mon, origin bool) bool {
	if pid < 1 || pid > len(s.Procs) || s.Procs[pid-1].State == api.PEnded {
		return false
	}
	l := s.Procs[pid-1].Targets
	if origin {
		l = s.Procs[pid-1].Origins
	}
	for _, m := range l {
		if m.Ref == want.Ref && m.Pid == want.Pid {
			return true
		}
	}
	return false
}

// expectDrained: deliveries alone come to an end, at most two for each signal that was under way, and none is refused (T8).
func expectDrained(p *pair) {
	p.t.Helper()
	most := 2 * p.v.Under()
	for many := 0; p.v.Under() > 0; many++ {
		if many == most {
			p.t.Fatalf("T8: behind %d deliveries: %s", many, lanesText(p.v.Lanes()))
		}
		lane := p.v.Lanes()[0]
		before := len(lane.Signals)
		p.do(api.Step{Kind: api.XDeliver, A: lane.From, B: lane.To})
		if after := p.v.Lanes(); len(after) > 0 && after[0].From == lane.From && after[0].To == lane.To && len(after[0].Signals) != before-1 && lane.From != lane.To {
			p.t.Fatalf("T8: a delivery was refused: %s", lanesText(after))
		}
	}
	p.hold()
	expectCalm(p)
}

// Collections anywhere change nothing; nor does how fuel is cut (T10).
func TestT10ByChance(t *testing.T) {
	r := rand.New(rand.NewSource(10))
	for range 400 {
		w := &writer{Rand: r, workers: 3 + r.Intn(3)}
		source, c := w.source(), configBy(r)
		whole, cut := newPair(t, source, c), newPair(t, source, c)
		for range 80 {
			x := step(r, whole.v.State())
			whole.v.Do(x)
			for _, y := range pieces(r, x) {
				cut.v.Do(y)
				cut.v.Do(api.Step{Kind: api.XCollect, A: r.Intn(5)})
			}
			if a, b := stateText(whole.v.State()), stateText(cut.v.State()); a != b {
				t.Fatalf("T10: of %s behind %v: %s; cut: %s", source, x, a, b)
			}
		}
	}
}

// pieces cuts the fuel of a run.
func pieces(r *rand.Rand, x api.Step) []api.Step {
	if x.Kind != api.XRun || x.N < 0 {
		return []api.Step{x}
	}
	var l []api.Step
	for left := x.N; left > 0; {
		n := r.Intn(left + 1)
		left -= n
		l = append(l, api.Step{Kind: api.XRun, A: x.A, N: n})
	}
	return append(l, api.Step{Kind: api.XRun, A: x.A})
}
