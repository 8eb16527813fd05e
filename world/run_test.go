package world_test

import (
	"errors"
	"strings"
	"testing"

	"exitwave/api"
	"exitwave/check"
	"exitwave/vm"
	"exitwave/world"
)

// talk is a source in which two processes speak and end.
var talk = mainly("P = spawn_link(fun() -> receive X -> out(X), exit(X) end end), P ! hi, process_flag(trap_exit, true), receive Y -> out(Y) end")

// Behind each step the state is that of a VM that did it.
func TestP1901Run(t *testing.T) {
	l := steps(t, "r 1 9 r 2 9 d 1 2 c 1 r 2 9 d 2 1 r 1 9 k 1 d 1 2")
	for i, want := range []string{
		"1 ready, []",
		"1 waiting 2/1, 2 ready 1/1, 1>2 1, []",
		"1 waiting 2/1, 2 waiting 1/1, 1>2 1, []",
		"1 waiting 2/1, 2 ready [hi] 1/1, []",
		"1 waiting 2/1, 2 ready [hi] 1/1, []",
		"1 waiting 2/1, 2 ended, 2>1 1, [hi]",
		"1 ready [{'EXIT',#Pid2,hi}], 2 ended, [hi]",
		"1 ended, 2 ended, [hi,{'EXIT',#Pid2,hi}]",
		"1 ended, 2 ended, [hi,{'EXIT',#Pid2,hi}]",
		"1 ended, 2 ended, [hi,{'EXIT',#Pid2,hi}]",
	} {
		s, err := world.Run(talk, plenty, l[:i])
		expectBrief(t, "P1901 Run of "+world.Text(l[:i]), s, err, want)
	}
}

// No list and an empty one are the same.
func TestP1901NoSteps(t *testing.T) {
	for _, l := range [][]api.Step{nil, {}, make([]api.Step, 0, 9), make([]api.Step, 9)} {
		s, err := world.Run(talk, plenty, l)
		expectBrief(t, "P1901 Run of nothing", s, err, "1 ready, []")
		s, n, err := world.Drain(talk, plenty, l)
		expectBrief(t, "P1901 Drain of nothing", s, err, "1 ready, []")
		if n != 0 {
			t.Errorf("P1901 Drain of nothing: %d deliveries", n)
		}
	}
}

// A configuration is that of the VM.
func TestP1901Config(t *testing.T) {
	source := mainly("out(catch spawn(" + waits + ")), out(catch make_ref()), self() ! [1, 2], receive _ -> 1 end")
	for _, c := range []struct {
		config api.Config
		want   string
	}{
		{api.Config{Procs: 2, Refs: 1, Words: 6}, "1 ready [[1,2]], 2 ready, [#Pid2,#Ref1]"},
		{api.Config{Procs: 1, Refs: 1, Words: 6}, "1 ready [[1,2]], [{'EXIT',system_limit},#Ref1]"},
		{api.Config{Procs: 2, Refs: 0, Words: 6}, "1 ready [[1,2]], 2 ready, [#Pid2,{'EXIT',system_limit}]"},
		{api.Config{Procs: 2, Refs: 1, Words: 5}, "1 exiting, 2 ready, [#Pid2,#Ref1]"},
	} {
		s, err := world.Run(source, c.config, steps(t, "r 1 20 d 1 1"))
		expectBrief(t, "P1901 Run", s, err, c.want)
	}
}

// wrong are sources and configurations that vm.New refuses.
var wrong = []struct {
	source string
	config api.Config
	number api.Errno
}{
	{"", plenty, api.ErrSyntax},
	{"-module(m). main() -> X.", plenty, api.ErrUnbound},
	{"-module(m). main() -> g().", plenty, api.ErrCall},
	{"-module(m). main() -> 'a", plenty, api.ErrQuote},
	{"-module(m). main() -> \x00.", plenty, api.ErrChar},
	{strings.Repeat(" ", api.MaxSource+1), plenty, api.ErrLong},
	{"-module(m). f() -> 1.", plenty, api.ErrNone},
	{"-module(m). main(X) -> X.", plenty, api.ErrNone},
	{mainly("1"), api.Config{}, api.ErrArg},
	{mainly("1"), api.Config{Procs: api.MaxProcs + 1, Refs: 1, Words: 1}, api.ErrArg},
	{mainly("1"), api.Config{Procs: 1, Refs: -1, Words: 1}, api.ErrArg},
	{mainly("1"), api.Config{Procs: 1, Refs: 1, Words: 1<<24 + 1}, api.ErrArg},
	{"-module(m). main() -> X.", api.Config{}, api.ErrArg},
}

// allErrors are those of the three calls; beside an error nothing is told (P4).
func allErrors(t *testing.T, source string, c api.Config, l []api.Step, fuel, rounds int) []error {
	t.Helper()
	s1, e1 := world.Run(source, c, l)
	s2, n, e2 := world.Drain(source, c, l)
	s3, calm, e3 := world.Settle(source, c, l, fuel, rounds)
	for _, s := range []api.State{s1, s2, s3} {
		if all(s) != all(api.State{}) {
			t.Errorf("P4: beside an error: %s", all(s))
		}
	}
	if n != 0 || calm {
		t.Errorf("P4: beside an error: %d, %v", n, calm)
	}
	return []error{e1, e2, e3}
}

// What vm.New refuses is refused with its error, whatever else is wrong.
func TestP1901Refused(t *testing.T) {
	for _, x := range wrong {
		_, want := vm.New(x.source, x.config)
		for _, l := range [][]api.Step{nil, {run(1, 1)}, make([]api.Step, api.MaxSteps+1)} {
			for _, fuel := range []int{1, 0} {
				for i, err := range allErrors(t, x.source, x.config, l, fuel, 2000*(1-fuel)) {
					if !errors.Is(err, x.number) || err.Error() != want.Error() {
						t.Errorf("P1901 call %d of %.40q, %v: %v; want %v", i, x.source, x.config, err, want)
					}
				}
			}
		}
	}
}

// A source's fault is found as a *check.Wrong, and only there.
func TestP1901Wrong(t *testing.T) {
	for _, x := range wrong {
		var asked *check.Wrong
		_, want := vm.New(x.source, x.config)
		is := errors.As(want, &asked)
		for i, err := range allErrors(t, x.source, x.config, nil, 1, 1) {
			var told *check.Wrong
			if errors.As(err, &told) != is || is && (told.Fault != asked.Fault || told.Fault.Err != x.number) {
				t.Errorf("P1901 call %d of %.40q: %v; want %v", i, x.source, err, want)
			}
		}
	}
}

// MaxSteps steps are all done; one more is refused, whatever it is, ahead of fuel and rounds.
func TestP1901Many(t *testing.T) {
	source := mainly("f(1)", "f(N) -> g(N).", "g(N) -> out(N), f(N + 1).")
	l := make([]api.Step, api.MaxSteps)
	l[0], l[1], l[api.MaxSteps-1] = run(1, 3), run(9, 9), run(1, 1)
	s, err := world.Run(source, plenty, l)
	expectBrief(t, "P1901 Run of MaxSteps steps", s, err, "1 ready, [1]")
	s, _, err = world.Drain(source, plenty, l)
	expectBrief(t, "P1901 Drain of MaxSteps steps", s, err, "1 ready, [1]")
	s, _, err = world.Settle(source, plenty, l, 3, 1)
	expectBrief(t, "P1902 Settle of MaxSteps steps", s, err, "1 ready, [1,2]")
	for _, many := range []int{api.MaxSteps + 1, 2 * api.MaxSteps, 1 << 20} {
		for i, err := range allErrors(t, source, plenty, make([]api.Step, many), 0, -1) {
			if !errors.Is(err, api.ErrMany) || errors.Is(err, api.ErrArg) || errors.Unwrap(err) != error(api.ErrMany) || err.Error() != "steps: many" {
				t.Errorf("P1901 call %d of %d steps: %v; want one that wraps many", i, many, err)
			}
		}
	}
}

// Sources, configurations and scripts by chance, held against a VM.
func TestP1901ByChance(t *testing.T) {
	r := newChance(1901)
	for range 1500 {
		source, c, l := r.source(), r.config(), r.script(60)
		s, err := world.Run(source, c, l)
		if want := played(t, source, c, l).State(); err != nil || all(s) != all(want) {
			t.Fatalf("P1901 Run of %s, %v: %s, %v; want %s", source, l, all(s), err, all(want))
		}
	}
}
