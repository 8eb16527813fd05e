package sound_test

import (
	"fmt"
	"math"
	"slices"
	"testing"

	"exitwave/api"
	"exitwave/sound"
)

// beyond are numbers that nothing has.
var beyond = []int{math.MinInt, -1 << 32, -2, -1, 1 << 20, 1<<32 + 1, math.MaxInt}

func whole(n int64) api.Term { return api.Term{Kind: api.KInt, N: n} }

func atom(s string) api.Term { return api.Term{Kind: api.KAtom, S: s} }

func ref(n int64) api.Term { return api.Term{Kind: api.KRef, N: n} }

func tuple(l ...api.Term) api.Term { return api.Term{Kind: api.KTuple, L: l} }

func list(l ...api.Term) api.Term { return api.Term{Kind: api.KList, L: l} }

// down is the message of a monitor.
func down(n int64) api.Term {
	return tuple(atom("DOWN"), ref(n), atom("process"), api.Term{Kind: api.KPid, N: 2}, atom("noproc"))
}

// trait is something that a process has.
type trait func(p *api.Proc)

// process is one in a state.
func process(pid, state int, l ...trait) api.Proc {
	p := api.Proc{Pid: pid, State: state}
	for _, t := range l {
		t(&p)
	}
	return p
}

func ready(pid int, l ...trait) api.Proc { return process(pid, api.PReady, l...) }

func waiting(pid int, l ...trait) api.Proc { return process(pid, api.PWaiting, l...) }

func exiting(pid int, l ...trait) api.Proc { return process(pid, api.PExiting, l...) }

func ended(pid int, l ...trait) api.Proc { return process(pid, api.PEnded, l...) }

// linked is half-links that are Linked.
func linked(pids ...int) trait {
	return func(p *api.Proc) {
		for _, n := range pids {
			p.Links = append(p.Links, api.Half{Pid: n, State: api.Linked})
		}
	}
}

// half is a half-link, however it stands.
func half(pid, state, id int) trait {
	return func(p *api.Proc) { p.Links = append(p.Links, api.Half{Pid: pid, State: state, Id: id}) }
}

// origin, target are halves of a monitor.
func origin(ref, pid int) trait {
	return func(p *api.Proc) { p.Origins = append(p.Origins, api.Mon{Ref: ref, Pid: pid}) }
}

func target(ref, pid int) trait {
	return func(p *api.Proc) { p.Targets = append(p.Targets, api.Mon{Ref: ref, Pid: pid}) }
}

// byName is an origin that was asked for by a name.
func byName(ref, pid int, name string) trait {
	return func(p *api.Proc) { p.Origins = append(p.Origins, api.Mon{Ref: ref, Pid: pid, Name: name}) }
}

func named(l ...string) trait { return func(p *api.Proc) { p.Names = append(p.Names, l...) } }

func has(l ...api.Term) trait { return func(p *api.Proc) { p.Inbox = append(p.Inbox, l...) } }

func because(x api.Term) trait { return func(p *api.Proc) { p.Reason = x } }

func traps(p *api.Proc) { p.Trap = true }

// of is a state in which nothing is under way.
func of(l ...api.Proc) api.State { return api.State{Procs: l} }

// lane has so many signals.
func lane(from, to, many int) api.Lane {
	l := api.Lane{From: from, To: to}
	for range many {
		l.Signals = append(l.Signals, api.Signal{From: from, To: to, Kind: api.SLink})
	}
	return l
}

// with is a state with lanes.
func with(s api.State, l ...api.Lane) api.State {
	s.Lanes = append(slices.Clone(s.Lanes), l...)
	return s
}

func rules(l ...sound.Rule) []sound.Rule { return l }

// expectCheck holds Check, and the document's words once more, against what is asked for.
func expectCheck(t *testing.T, what string, s api.State, want ...sound.Rule) {
	t.Helper()
	if got := sound.Check(s); !slices.Equal(got, want) {
		t.Errorf("P2001 Check of %s: %v; want %v, of %+v", what, got, want, s)
	}
	if got := said(s); !slices.Equal(got, want) {
		t.Errorf("%s: the tests' own rules tell %v; want %v, of %+v", what, got, want, s)
	}
}

// all says everything that a value has; lists without elements are the same in it.
func all(x any) string { return fmt.Sprintf("%+v", x) }
