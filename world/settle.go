package world

import (
	"slices"

	"exitwave/api"
	"exitwave/vm"
)

// settle does not look whether anything is left to do: a round in which nothing is changes nothing.
func settle(v *vm.VM, fuel, rounds int) {
	var t traffic
	for range rounds {
		runEach(v, fuel)
		t.look(v)
		t.deliverEach(v)
	}
}

// runEach need not ask how a process stands: a run of one that waits or has ended is nothing, and a run of another one does not change that.
func runEach(v *vm.VM, fuel int) {
	for i := range v.Procs() {
		v.Do(api.Step{Kind: api.XRun, A: i + 1, N: fuel})
	}
}

// traffic is what is under way, as far as it was looked at and not delivered since.
type traffic struct {
	lanes []api.Lane // those that have signals
	all   int        // signals
}

// look asks for the lanes only if something was sent since, as then more is under way than is known: lanes are told with all their signals, so to ask in each round costs more than the round itself.
func (t *traffic) look(v *vm.VM) {
	if v.Under() != t.all {
		t.lanes, t.all = v.Lanes(), v.Under()
	}
}

// deliverEach delivers one signal of each lane that is known; a lane that comes up meanwhile is none of them.
func (t *traffic) deliverEach(v *vm.VM) {
	for i, lane := range t.lanes {
		v.Do(api.Step{Kind: api.XDeliver, A: lane.From, B: lane.To})
		t.lanes[i].Signals = lane.Signals[1:]
	}
	t.all -= len(t.lanes)
	t.lanes = slices.DeleteFunc(t.lanes, func(lane api.Lane) bool { return len(lane.Signals) == 0 })
}

func isCalm(s api.State) bool {
	for _, p := range s.Procs {
		if p.State == api.PReady || p.State == api.PExiting {
			return false
		}
	}
	return len(s.Lanes) == 0
}
