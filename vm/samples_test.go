package vm_test

import (
	"fmt"
	"strings"
	"testing"

	"exitwave/api"
	"exitwave/term"
	"exitwave/vm"
)

// plenty is a configuration whose limits no test meets that does not mean to.
var plenty = api.Config{Procs: 20, Refs: 20, Words: 1000}

// waits is a fun that waits until it is told to stop.
const waits = "fun() -> receive stop -> 1 end end"

func whole(n int64) api.Term { return api.Term{Kind: api.KInt, N: n} }

func atom(s string) api.Term { return api.Term{Kind: api.KAtom, S: s} }

func pid(n int64) api.Term { return api.Term{Kind: api.KPid, N: n} }

func ref(n int64) api.Term { return api.Term{Kind: api.KRef, N: n} }

func tuple(l ...api.Term) api.Term { return api.Term{Kind: api.KTuple, L: l} }

func list(l ...api.Term) api.Term { return api.Term{Kind: api.KList, L: l} }

// start is a VM whose main is a body, with what may stand behind it.
func start(t *testing.T, c api.Config, body string, behind ...string) *vm.VM {
	t.Helper()
	v, err := vm.New("-module(m). main() -> "+body+". "+strings.Join(behind, " "), c)
	if err != nil {
		t.Fatalf("P1801 %s: %v", body, err)
	}
	return v
}

func run(v *vm.VM, pid, fuel int) { v.Do(api.Step{Kind: api.XRun, A: pid, N: fuel}) }

func deliver(v *vm.VM, from, to int) { v.Do(api.Step{Kind: api.XDeliver, A: from, B: to}) }

func kill(v *vm.VM, pid int) { v.Do(api.Step{Kind: api.XKill, A: pid}) }

func collect(v *vm.VM, pid int) { v.Do(api.Step{Kind: api.XCollect, A: pid}) }

// ran is a VM of which process 1 ran for long.
func ran(t *testing.T, body string, behind ...string) *vm.VM {
	t.Helper()
	v := start(t, plenty, body, behind...)
	run(v, 1, 1000)
	return v
}

// text is a term's, or a blank where there is none.
func text(x api.Term) string {
	if x.Kind == 0 {
		return ""
	}
	s, e := term.Text(x)
	if e != api.OK {
		return fmt.Sprintf("(%v: kind %d, %d elements)", e, x.Kind, len(x.L))
	}
	return s
}

func outText(v *vm.VM) string {
	var l []string
	for _, x := range v.Out() {
		l = append(l, text(x))
	}
	return strings.Join(l, " ")
}

// procText says all that can be seen of a process but its pid.
func procText(p api.Proc) string {
	states := map[int]string{api.PReady: "ready", api.PWaiting: "waiting", api.PExiting: "exiting", api.PEnded: "ended"}
	l := []string{states[p.State]}
	add := func(word string, items []string) {
		if len(items) > 0 {
			l = append(l, word+"["+strings.Join(items, " ")+"]")
		}
	}
	if p.Reason.Kind != 0 {
		add("reason", []string{text(p.Reason)})
	}
	if p.Trap {
		l = append(l, "trap")
	}
	add("inbox", each(p.Inbox, text))
	add("links", each(p.Links, halfText))
	add("origins", each(p.Origins, monText))
	add("targets", each(p.Targets, monText))
	add("names", p.Names)
	return strings.Join(l, " ")
}

// halfText: who is linked; an identifier and a stroke behind it, if it is being unlinked.
func halfText(h api.Half) string {
	switch {
	case h.State == api.Linked && h.Id == 0:
		return fmt.Sprint(h.Pid)
	case h.State == api.Unlinking:
		return fmt.Sprintf("%d/%d", h.Pid, h.Id)
	}
	return fmt.Sprintf("wrong %+v", h)
}

// monText: the reference, and whom it is with; the name, too, if there is one.
func monText(m api.Mon) string {
	if m.Name != "" {
		return fmt.Sprintf("%d:%d=%s", m.Ref, m.Pid, m.Name)
	}
	return fmt.Sprintf("%d:%d", m.Ref, m.Pid)
}

func each[T any](l []T, tell func(T) string) []string {
	var told []string
	for _, x := range l {
		told = append(told, tell(x))
	}
	return told
}

// signalText says a signal's ends, its kind, and all of its fields that are not zero.
func signalText(s api.Signal) string {
	kinds := map[int]string{api.SMessage: "message", api.SLink: "link", api.SUnlink: "unlink", api.SUnlinkAck: "ack", api.SExit: "exit", api.SMonitor: "monitor", api.SDemonitor: "demonitor", api.SDown: "down"}
	l := []string{fmt.Sprintf("%d>%d", s.From, s.To), kinds[s.Kind]}
	if s.Id != 0 {
		l = append(l, fmt.Sprint("id", s.Id))
	}
	if s.Ref != 0 {
		l = append(l, fmt.Sprint("ref", s.Ref))
	}
	if s.Link {
		l = append(l, "linked")
	}
	if s.Name != "" {
		l = append(l, "by "+s.Name)
	}
	if s.Term.Kind != 0 {
		l = append(l, text(s.Term))
	}
	return strings.Join(l, " ")
}

func lanesText(l []api.Lane) string {
	var told []string
	for _, lane := range l {
		for _, s := range lane.Signals {
			if s.From != lane.From || s.To != lane.To {
				told = append(told, fmt.Sprintf("wrong lane %d>%d:", lane.From, lane.To))
			}
			told = append(told, signalText(s))
		}
	}
	return strings.Join(told, ", ")
}

// stateText says all that can be seen.
func stateText(s api.State) string {
	var b strings.Builder
	for i, p := range s.Procs {
		if p.Pid != i+1 {
			fmt.Fprintf(&b, "wrong pid %d at %d\n", p.Pid, i)
		}
		fmt.Fprintf(&b, "%d: %s\n", p.Pid, procText(p))
	}
	fmt.Fprintf(&b, "lanes: %s\nout: %s\n", lanesText(s.Lanes), strings.Join(each(s.Out, text), " "))
	return b.String()
}

func expectProc(t *testing.T, v *vm.VM, pid int, want string) {
	t.Helper()
	p, is := v.Proc(pid)
	if got := procText(p); !is || got != want || p.Pid != pid {
		t.Errorf("process %d: %s, %v; want %s", pid, got, is, want)
	}
}

func expectLanes(t *testing.T, v *vm.VM, want string) {
	t.Helper()
	if got := lanesText(v.Lanes()); got != want {
		t.Errorf("lanes: %s; want %s", got, want)
	}
	if many := len(strings.Split(want, ", ")); v.Under() != many && want != "" || want == "" && v.Under() != 0 {
		t.Errorf("Under: %d; want those of %q", v.Under(), want)
	}
}

func expectOut(t *testing.T, v *vm.VM, want string) {
	t.Helper()
	if got := outText(v); got != want {
		t.Errorf("out: %s; want %s", got, want)
	}
}

// expectSame wants that a step, or any other thing, changes nothing that can be seen.
func expectSame(t *testing.T, v *vm.VM, what string, do func()) {
	t.Helper()
	before := stateText(v.State())
	do()
	if after := stateText(v.State()); after != before {
		t.Errorf("%s changed\n%sto\n%s", what, before, after)
	}
}
