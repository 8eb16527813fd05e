package vm_test

import (
	"testing"

	"exitwave/api"
	"exitwave/vm"
)

func TestExample1(t *testing.T) {
	v, err := vm.New("-module(m). main() -> P = spawn(fun() -> receive X -> out(X) end end), P ! hi.", plenty)
	if err != nil {
		t.Fatal(err)
	}
	v.Do(api.Step{Kind: api.XRun, A: 1, N: 9})
	if v.Procs() != 2 {
		t.Errorf("%d processes", v.Procs())
	}
	expectLanes(t, v, "1>2 message hi")
	expectProc(t, v, 1, "ended reason[normal]")
	expectProc(t, v, 2, "ready")
	v.Do(api.Step{Kind: api.XRun, A: 2, N: 9})
	expectProc(t, v, 2, "waiting")
	v.Do(api.Step{Kind: api.XDeliver, A: 1, B: 2})
	expectProc(t, v, 2, "ready inbox[hi]")
	expectLanes(t, v, "")
	expectOut(t, v, "")
	v.Do(api.Step{Kind: api.XRun, A: 2, N: 9})
	expectOut(t, v, "hi")
	expectProc(t, v, 2, "ended reason[normal]")
}

func TestExample2(t *testing.T) {
	v := start(t, plenty, "P = spawn_link(fun() -> exit(oops) end), receive X -> X end")
	run(v, 1, 9)
	expectProc(t, v, 1, "waiting links[2]")
	run(v, 2, 9)
	expectProc(t, v, 2, "ended reason[oops]")
	expectLanes(t, v, "2>1 exit linked oops")
	deliver(v, 2, 1)
	expectProc(t, v, 1, "exiting reason[oops]")
	run(v, 1, 0)
	expectProc(t, v, 1, "ended reason[oops]")
	expectLanes(t, v, "")
}
