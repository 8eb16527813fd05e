package sound_test

import (
	"fmt"
	"testing"

	"exitwave/api"
	"exitwave/sound"
)

func TestP2002Calmed(t *testing.T) {
	for i, c := range []struct {
		s    api.State
		want bool
	}{
		{api.State{}, true},
		{api.State{Procs: []api.Proc{}, Lanes: []api.Lane{}}, true},
		{of(ready(1), waiting(2), ended(3)), true},
		{of(exiting(1)), false},
		{of(ready(1), ended(2), exiting(3)), false},
		{of(exiting(1), ready(2)), false},
		{of(process(1, 0), process(2, 5), process(-3, -3), process(4, 1<<32+3)), true},
		{with(of(ready(1)), lane(1, 2, 0)), true},
		{with(of(ready(1)), lane(1, 2, 0), lane(1, 2, 0), lane(0, 0, 0)), true},
		{with(of(ready(1)), lane(1, 2, 1)), false},
		{with(of(ready(1)), lane(1, 2, 0), lane(2, 1, 0), lane(3, 1, 2)), false},
		{with(of(ready(1)), lane(3, 1, 2), lane(1, 2, 0)), false},
		{with(of(exiting(1)), lane(1, 2, 1)), false},
		{with(of(exiting(1)), lane(1, 2, 0)), false},
		{with(api.State{}, lane(7, 7, 1)), false},
		{with(of(ready(1)), api.Lane{From: 1, To: 2, Signals: []api.Signal{{}}}), false},
		{with(of(ready(1)), api.Lane{From: 1, To: 2, Signals: make([]api.Signal, 0, 5)}), true},
		{of(ready(1, linked(9), half(7, api.Unlinking, 1), origin(1, 8), has(atom("a")))), true}, // it is calmed, though not sound
	} {
		if got := sound.Calmed(c.s); got != c.want || saidCalmed(c.s) != c.want {
			t.Errorf("P2002 Calmed of state %d: %v; want %v", i, got, c.want)
		}
	}
}

// counted are Count's four numbers and Bound.
type counted struct{ signals, links, targets, origins, bound int }

func countsOf(s api.State) counted {
	signals, links, targets, origins := sound.Count(s)
	return counted{signals, links, targets, origins, sound.Bound(s)}
}

func TestP2002Count(t *testing.T) {
	laden := []trait{linked(2, 2, 9), half(3, 7, 7), target(1, 2), target(1, 2), origin(4, 0)}
	for i, c := range []struct {
		s    api.State
		want counted
	}{
		{api.State{}, counted{}},
		{of(ready(1), exiting(2)), counted{}},
		{of(ready(1, laden...)), counted{0, 4, 2, 1, 7}},
		{of(waiting(1, laden...)), counted{0, 4, 2, 1, 7}},
		{of(exiting(1, laden...)), counted{0, 4, 2, 1, 7}},
		{of(ended(1, laden...)), counted{}},
		{of(process(1, 0, laden...)), counted{0, 4, 2, 1, 7}},
		{of(process(1, 5, laden...)), counted{0, 4, 2, 1, 7}},
		{of(process(1, 1<<32+4, laden...)), counted{0, 4, 2, 1, 7}},
		{of(ready(1, laden...), ended(2, laden...), exiting(1, laden...), ready(-1, linked(1))), counted{0, 9, 4, 2, 15}},
		{of(ready(1, origin(1, 2), origin(2, 2), origin(3, 3))), counted{0, 0, 0, 3, 3}},
		{of(ready(1, target(1, 2), target(2, 2))), counted{0, 0, 2, 0, 2}},
		{of(ready(1, linked(1))), counted{0, 1, 0, 0, 1}},
		{with(api.State{}, lane(1, 2, 1)), counted{1, 0, 0, 0, 2}},
		{with(api.State{}, lane(1, 2, 0), lane(1, 2, 3), lane(9, 0, 0), lane(1, 2, 4)), counted{7, 0, 0, 0, 14}},
		{with(of(ready(1, laden...)), lane(1, 2, 3)), counted{3, 4, 2, 1, 13}},
		{with(of(ended(1, laden...)), lane(1, 1, 5)), counted{5, 0, 0, 0, 10}}, // signals from and to whomever
		{with(of(), api.Lane{From: 1, To: 2, Signals: []api.Signal{{From: 5, To: 5}, {}}}), counted{2, 0, 0, 0, 4}},
		{of(ready(1, has(atom("a"), atom("b")), named("a", "b"), traps)), counted{}},
	} {
		if got := countsOf(c.s); got != c.want {
			t.Errorf("P2002 Count, Bound of state %d: %+v; want %+v", i, got, c.want)
		}
	}
}

// All that is counted is counted to its end, also where it is a lot.
func TestP2002Many(t *testing.T) {
	p := ready(1)
	for i := range 70000 {
		linked(i)(&p)
		target(i, i)(&p)
		target(i, i)(&p)
	}
	s := with(of(p, p), lane(1, 2, 1<<17), lane(2, 1, 5))
	want := counted{1<<17 + 5, 140000, 280000, 0, 2*(1<<17+5) + 420000}
	if got := countsOf(s); got != want {
		t.Errorf("P2002 Count, Bound: %s; want %s", fmt.Sprint(got), fmt.Sprint(want))
	}
}
