package world_test

import (
	"fmt"
	"math"
	"math/rand"
	"strings"
	"testing"

	"exitwave/api"
	"exitwave/term"
	"exitwave/vm"
	"exitwave/world"
)

// plenty is a configuration whose limits no test meets that does not mean to.
var plenty = api.Config{Procs: 20, Refs: 20, Words: 1000}

// beyond are numbers that nothing takes.
var beyond = []int{math.MinInt, -1 << 32, -2, -1, 1<<32 + 1, math.MaxInt}

// waits is a fun that waits until it is told to stop.
const waits = "fun() -> receive stop -> 1 end end"

// mainly is a source whose main is a body, with what may stand behind it.
func mainly(body string, behind ...string) string {
	return "-module(m). main() -> " + body + ". " + strings.Join(behind, " ")
}

func run(pid, fuel int) api.Step { return api.Step{Kind: api.XRun, A: pid, N: fuel} }

func deliver(from, to int) api.Step { return api.Step{Kind: api.XDeliver, A: from, B: to} }

func kill(pid int) api.Step { return api.Step{Kind: api.XKill, A: pid} }

func collect(pid int) api.Step { return api.Step{Kind: api.XCollect, A: pid} }

// steps are those of a text.
func steps(t *testing.T, text string) []api.Step {
	t.Helper()
	l, e := world.Script(text)
	if e != api.OK {
		t.Fatalf("P1903 Script of %q: %v", text, e)
	}
	return l
}

// all says everything that a state has; lists without elements are the same in it.
func all(s api.State) string { return fmt.Sprintf("%+v", s) }

// text is a list of terms as a program would write it.
func text(l []api.Term) string {
	s, e := term.Text(api.Term{Kind: api.KList, L: l})
	if e != api.OK {
		return e.Error()
	}
	return s
}

// brief says of a state what most tests are about: how each process stands, with its inbox and its half-links; lanes, with how many signals they have; the output.
func brief(s api.State) string {
	var l []string
	states := map[int]string{api.PReady: "ready", api.PWaiting: "waiting", api.PExiting: "exiting", api.PEnded: "ended"}
	for _, p := range s.Procs {
		word := fmt.Sprint(p.Pid, " ", states[p.State])
		if len(p.Inbox) > 0 {
			word += " " + text(p.Inbox)
		}
		for _, h := range p.Links {
			word += fmt.Sprint(" ", h.Pid, "/", h.State)
		}
		l = append(l, word)
	}
	for _, lane := range s.Lanes {
		l = append(l, fmt.Sprintf("%d>%d %d", lane.From, lane.To, len(lane.Signals)))
	}
	return strings.Join(append(l, text(s.Out)), ", ")
}

func expectBrief(t *testing.T, what string, s api.State, err error, want string) {
	t.Helper()
	if got := brief(s); err != nil || got != want {
		t.Errorf("%s: %s, %v; want %s", what, got, err, want)
	}
}

// played is a VM behind a script, which tests go on with as the document says it.
func played(t *testing.T, source string, c api.Config, l []api.Step) *vm.VM {
	t.Helper()
	v, err := vm.New(source, c)
	if err != nil {
		t.Fatalf("P1801 %s: %v", source, err)
	}
	for _, x := range l {
		v.Do(x)
	}
	return v
}

// drained is Drain once more: the lanes are asked for ahead of each delivery.
func drained(v *vm.VM) int {
	many := 0
	for l := v.Lanes(); len(l) > 0; l = v.Lanes() {
		v.Do(deliver(l[0].From, l[0].To))
		many++
	}
	return many
}

func isReady(p api.Proc) bool { return p.State == api.PReady || p.State == api.PExiting }

func isCalm(v *vm.VM) bool {
	for _, p := range v.State().Procs {
		if isReady(p) {
			return false
		}
	}
	return len(v.Lanes()) == 0
}

// settled is Settle once more: how processes and lanes stand is asked for ahead of what a round does with them, and nothing is done when nothing is left to do.
func settled(v *vm.VM, fuel, rounds int) bool {
	for i := 0; i < rounds && !isCalm(v); i++ {
		for _, p := range v.State().Procs {
			if isReady(p) {
				v.Do(run(p.Pid, fuel))
			}
		}
		for _, lane := range v.Lanes() {
			v.Do(deliver(lane.From, lane.To))
		}
	}
	return isCalm(v)
}

// chance makes sources and scripts.
type chance struct{ *rand.Rand }

func newChance(n int64) chance { return chance{rand.New(rand.NewSource(n))} }

func (r chance) of(l ...string) string { return l[r.Intn(len(l))] }

// action is one thing that a worker does, by chance.
func (r chance) action() string {
	whom, worker := r.of("A", "B", "C", "self()"), r.of("fun w0/0", "fun w1/0", "fun w2/0")
	return "out(catch " + r.of(
		"link("+whom+")", "link("+whom+")", "unlink("+whom+")", "begin link("+whom+"), unlink("+whom+") end", "begin link("+whom+"), unlink("+whom+"), link("+whom+") end",
		"("+whom+" ! {m, self()})", "("+whom+" ! {m, self()})", "("+whom+" ! "+whom+")", "monitor(process, "+whom+")", "monitor(process, nobody)", "demonitor(monitor(process, "+whom+"))",
		"spawn("+worker+")", "spawn_link("+worker+")", "spawn_monitor("+worker+")", "exit("+whom+", "+r.of("normal", "kill", "oops")+")", "process_flag(trap_exit, true)",
		"(fun() -> receive X -> X after 0 -> none end end)()", "(fun() -> receive X -> X after 0 -> none end end)()", "(fun() -> receive X -> X end end)()",
	) + ")"
}

// source is one whose workers do to each other whatever can be asked.
func (r chance) source() string {
	s := "-module(m). main() -> register(a, self()), register(b, spawn(fun w1/0)), register(c, spawn_link(fun w2/0)), w0()."
	for i := range 3 {
		l := []string{"A = whereis(a), B = whereis(b), C = whereis(c)"}
		for range 2 + r.Intn(9) {
			l = append(l, r.action())
		}
		l = append(l, r.of("w0()", "exit(oops)", "receive stop -> 1 end", "receive stop -> 1 end", "ok"))
		s += fmt.Sprintf(" w%d() -> %s.", i, strings.Join(l, ", "))
	}
	return s
}

func (r chance) config() api.Config {
	return api.Config{Procs: 3 + r.Intn(6), Refs: r.Intn(12), Words: []int{6, 30, 1000}[r.Intn(3)]}
}

// script has mostly steps that do something, for some processes.
func (r chance) script(most int) []api.Step {
	var l []api.Step
	for range r.Intn(most + 1) {
		a, b := r.Intn(6), r.Intn(6)
		switch r.Intn(16) {
		case 0:
			l = append(l, kill(a))
		case 1:
			l = append(l, collect(a))
		case 2:
			l = append(l, api.Step{Kind: r.Intn(9) - 2, A: a, B: b, N: r.Intn(9) - 2})
		case 3, 4, 5, 6, 7:
			l = append(l, deliver(a, b))
		default:
			l = append(l, run(a, []int{0, 1, 2, 3, 5, 9, 20, 60}[r.Intn(8)]))
		}
	}
	return l
}
