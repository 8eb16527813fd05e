package vm_test

import (
	"errors"
	"math"
	"strings"
	"testing"

	"exitwave/api"
	"exitwave/check"
	"exitwave/vm"
)

const right = "-module(m). main() -> 1."

// Each bound of a configuration, at it and beyond.
func TestP1801Bounds(t *testing.T) {
	for _, c := range []struct {
		config api.Config
		is     bool
	}{
		{api.Config{Procs: 1, Refs: 0, Words: 1}, true},
		{api.Config{Procs: api.MaxProcs, Refs: api.MaxRefs, Words: 1 << 24}, true},
		{api.Config{Procs: 0, Refs: 0, Words: 1}, false},
		{api.Config{Procs: -1, Refs: 0, Words: 1}, false},
		{api.Config{Procs: math.MinInt, Refs: 0, Words: 1}, false},
		{api.Config{Procs: api.MaxProcs + 1, Refs: 0, Words: 1}, false},
		{api.Config{Procs: math.MaxInt, Refs: 0, Words: 1}, false},
		{api.Config{Procs: 1, Refs: -1, Words: 1}, false},
		{api.Config{Procs: 1, Refs: math.MinInt, Words: 1}, false},
		{api.Config{Procs: 1, Refs: api.MaxRefs + 1, Words: 1}, false},
		{api.Config{Procs: 1, Refs: math.MaxInt, Words: 1}, false},
		{api.Config{Procs: 1, Refs: 0, Words: 0}, false},
		{api.Config{Procs: 1, Refs: 0, Words: -1}, false},
		{api.Config{Procs: 1, Refs: 0, Words: math.MinInt}, false},
		{api.Config{Procs: 1, Refs: 0, Words: 1<<24 + 1}, false},
		{api.Config{Procs: 1, Refs: 0, Words: math.MaxInt}, false},
		{api.Config{}, false},
	} {
		v, err := vm.New(right, c.config)
		if c.is && (v == nil || err != nil) || !c.is && (v != nil || !errors.Is(err, api.ErrArg)) {
			t.Errorf("P1801 New of %+v: %v, %v; want it taken: %v", c.config, v != nil, err, c.is)
		}
		if !c.is && errors.Unwrap(err) != error(api.ErrArg) {
			t.Errorf("P1801 New of %+v: %v does not wrap ErrArg", c.config, err)
		}
	}
}

// The configuration comes first, the source's fault next, the missing main last.
func TestP1801Order(t *testing.T) {
	for _, source := range []string{"x", "-module(m). main() -> X.", "-module(m). f() -> 1.", ""} {
		if v, err := vm.New(source, api.Config{Procs: 1, Words: 0}); v != nil || !errors.Is(err, api.ErrArg) {
			t.Errorf("P1801 New of %q and a wrong configuration: %v", source, err)
		}
	}
	if v, err := vm.New("-module(m). f() -> X.", plenty); v != nil || !errors.Is(err, api.ErrUnbound) || errors.Is(err, api.ErrNone) {
		t.Errorf("P1801 New of a wrong source without main: %v", err)
	}
}

// What check.Source refuses is refused with its error (T1).
func TestP1801Sources(t *testing.T) {
	for _, source := range []string{
		"", "x", "-modul(m).", "-module(m). main() -> 1 +.", "-module(m). main() -> X.", "-module(m). main() -> g().",
		"-module(m). main() -> 1. main() -> 2.", "-module(m). main() -> 1; f() -> 2.", "-module(m). main() -> 'a", "-module(m). main() -> \x00.",
		"-module(m). main() -> " + strings.Repeat("[", 300), strings.Repeat(" ", 1<<16+1), "-module(m). main() -> send(1, 2).",
	} {
		_, want := check.Source(source)
		v, err := vm.New(source, plenty)
		var told, asked *check.Wrong
		if v != nil || !errors.As(want, &asked) || !errors.As(err, &told) || told.Fault != asked.Fault {
			t.Errorf("P1801 New of %.40q: %v; want %v", source, err, want)
		}
	}
}

func TestP1801Main(t *testing.T) {
	for source, is := range map[string]bool{
		right:                       true,
		"-module(m).":               false,
		"-module(m). f() -> 1.":     false,
		"-module(m). main(X) -> X.": false,
		"-module(m). main(X) -> X. mainly() -> 1.":   false,
		"-module(m). main(X) -> X. main() -> 1.":     true,
		"-module(m). 'main'() -> 1.":                 true,
		"-module(m). f() -> 1. main() -> f().":       true,
		"-module(main). f() -> main. 'Main'() -> 1.": false,
	} {
		v, err := vm.New(source, plenty)
		if is && (v == nil || err != nil) || !is && (v != nil || !errors.Is(err, api.ErrNone) || errors.Unwrap(err) != error(api.ErrNone)) {
			t.Errorf("P1801 New of %q: %v; want it taken: %v", source, err, is)
		}
	}
}

// A new VM has one process, which has not run.
func TestP1801New(t *testing.T) {
	v := start(t, plenty, "out(self()), f()", "f() -> out(f).", "main(X) -> out(X).")
	if got, want := stateText(v.State()), "1: ready\nlanes: \nout: \n"; got != want || v.Procs() != 1 || v.Under() != 0 || len(v.Out()) != 0 {
		t.Errorf("P1801 a new VM: %s; want %s", got, want)
	}
	run(v, 1, 0)
	expectProc(t, v, 1, "ready")
	run(v, 1, 1)
	expectOut(t, v, "")
	run(v, 1, 2)
	expectOut(t, v, "#Pid1")
	run(v, 1, 2)
	expectOut(t, v, "#Pid1 f")
	expectProc(t, v, 1, "ended reason[normal]")
}

// Of two VMs of the same source neither knows of the other (P7).
func TestP1801Apart(t *testing.T) {
	a, b := start(t, plenty, "register(a, self()), out(make_ref()), spawn("+waits+") ! 1"), start(t, plenty, "register(a, self()), out(make_ref()), spawn("+waits+") ! 1")
	before := stateText(b.State())
	run(a, 1, 100)
	if after := stateText(b.State()); after != before {
		t.Errorf("P7: a run of another one changed %s to %s", before, after)
	}
	run(b, 1, 100)
	if stateText(a.State()) != stateText(b.State()) {
		t.Errorf("P3: %s and %s", stateText(a.State()), stateText(b.State()))
	}
}

// A VM that New did not make has nothing, and does nothing.
func TestP1Zero(t *testing.T) {
	var v vm.VM
	for kind := -1; kind < 6; kind++ {
		for a := -1; a < 3; a++ {
			v.Do(api.Step{Kind: kind, A: a, B: 1, N: 1})
		}
	}
	if _, is := v.Proc(1); is || v.Procs() != 0 || v.Under() != 0 || len(v.Lanes()) != 0 || len(v.Out()) != 0 {
		t.Errorf("P1: a VM that New did not make has something")
	}
	if s := v.State(); len(s.Procs)+len(s.Lanes)+len(s.Out) != 0 {
		t.Errorf("P1: its state is %+v", s)
	}
}
