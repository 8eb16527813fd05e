package sound_test

import (
	"fmt"
	"math"
	"slices"
	"testing"

	"exitwave/api"
	"exitwave/sound"
)

// stillOf is a state that is not calmed by a lane, so that only the rules up to Named are looked for.
func stillOf(l ...api.Proc) api.State { return with(of(l...), lane(1, 1, 1)) }

func TestP2001Numbers(t *testing.T) {
	for i, r := range []sound.Rule{sound.Order, sound.Ghost, sound.Alive, sound.Named, sound.Calm, sound.Mutual, sound.Dead, sound.Paired} {
		if int(r) != i+1 {
			t.Errorf("P2001: rule %d has the number %d", i+1, r)
		}
	}
}

func TestP2001Sound(t *testing.T) {
	for i, s := range []api.State{
		{},
		{Procs: []api.Proc{}, Lanes: []api.Lane{}, Out: []api.Term{}},
		{Out: []api.Term{{}, atom("a"), {Kind: 99}}},
		of(ready(1)), of(waiting(1)), of(exiting(1)), of(ended(1)),
		of(ready(1), waiting(2), exiting(3), ended(4), ready(5)),
		of(ready(1, named("a"), has(atom("x"), atom("x")), traps), waiting(2, named("b"), has(api.Term{}), traps)),
		of(ready(1, named("")), ready(2, named("a")), ready(3, named("A"))),
		of(ended(1, because(atom("normal"))), exiting(2, because(tuple()))),
		of(ready(1, linked(2, 3)), waiting(2, linked(1, 3)), ready(3, linked(1, 2))),
		of(ready(1, origin(3, 2), origin(5, 2)), waiting(2, target(3, 1), target(5, 1))),
		of(ready(1, origin(1, 2), target(2, 2)), waiting(2, origin(2, 1), target(1, 1))),
		of(ready(1, byName(1, 2, "a"), byName(2, 0, "b")), waiting(2, target(1, 1), named("c"))),
		of(exiting(1, linked(2, 9), half(11, api.Unlinking, 4), origin(1, 2), origin(2, 0), target(3, 7))),
		of(ready(1, linked(7), origin(1, 7), target(2, 7), half(9, api.Unlinking, 1)), exiting(2)),
		stillOf(ready(1, linked(7), origin(1, 7), target(2, 7), half(9, api.Unlinking, 1))),
		with(of(ready(1), ready(2)), lane(0, 1, 1), lane(1, 1, 2), lane(1, 2, 1), lane(1, 9, 3), lane(2, 1, 1), lane(9, 1, 1)),
	} {
		expectCheck(t, fmt.Sprint("sound state ", i), s)
	}
}

func TestP2001Alone(t *testing.T) {
	for _, c := range []struct {
		rule   sound.Rule
		states []api.State
	}{
		{sound.Order, []api.State{of(ready(2)), of(ready(1, origin(2, 0), origin(1, 0)))}},
		{sound.Ghost, []api.State{of(process(1, 5)), of(ready(1, half(1, api.Linked, 1)))}},
		{sound.Alive, []api.State{of(ended(1, traps)), of(ready(1, because(atom("a"))))}},
		{sound.Named, []api.State{of(ready(1, named("a", "b"))), of(ready(1, named("a")), ready(2, named("a")))}},
		{sound.Calm, []api.State{of(ready(1, half(1, api.Unlinking, 1)))}},
		{sound.Mutual, []api.State{of(ready(1, linked(2)), ready(2))}},
		{sound.Dead, []api.State{}}, // one that is there no more has no half back, so another rule is broken, too
		{sound.Paired, []api.State{of(ready(1, origin(1, 2)), ready(2)), of(ready(1, target(1, 2)), ready(2))}},
	} {
		for i, s := range c.states {
			expectCheck(t, fmt.Sprint(c.rule, " alone, ", i), s, c.rule)
		}
	}
}

func TestP2001Several(t *testing.T) {
	every := rules(sound.Order, sound.Ghost, sound.Alive, sound.Named, sound.Calm, sound.Mutual, sound.Dead, sound.Paired)
	broken := of(ready(2, half(1, 7, 1), origin(5, 8), target(4, 8), named("a", "a"), because(atom("x"))), process(2, 9, half(4, 0, 0), named("a")))
	expectCheck(t, "all rules", broken, every...)
	expectCheck(t, "all rules twice", of(append(broken.Procs, broken.Procs...)...), every...)
	expectCheck(t, "all rules, a signal under way", with(broken, lane(1, 2, 1)), every[:4]...)
	expectCheck(t, "all rules, one exiting", of(append(slices.Clone(broken.Procs), exiting(3))...), every[:4]...)
	for i, c := range []struct {
		s    api.State
		want []sound.Rule
	}{
		{of(ready(1, linked(9))), rules(sound.Mutual, sound.Dead)},
		{of(ready(1, linked(3, 2)), ready(2)), rules(sound.Order, sound.Mutual, sound.Dead)},
		{of(ready(1, origin(1, 2)), ended(2)), rules(sound.Dead, sound.Paired)},
		{of(ready(1, half(2, 3, 0)), ready(2, linked(1))), rules(sound.Ghost, sound.Calm)},
		{of(ready(1, named("a")), ended(2, named("a"))), rules(sound.Alive, sound.Named)},
		{of(ready(1, linked(2), origin(1, 2), target(2, 2)), ended(2, linked(1), target(1, 1), origin(2, 1))), rules(sound.Alive, sound.Dead)},
		{with(of(process(1, 0), ended(2, traps)), lane(2, 1, 1), lane(1, 1, 1)), rules(sound.Order, sound.Ghost, sound.Alive)},
		{with(of(process(1, 0, linked(4)), ready(2, linked(4))), lane(2, 1, 0)), rules(sound.Order, sound.Ghost, sound.Mutual, sound.Dead)},
	} {
		expectCheck(t, fmt.Sprint("several, ", i), c.s, c.want...)
	}
}

func TestP2001OrderPids(t *testing.T) {
	for _, pids := range [][]int{{0}, {2}, {-1}, {1, 3}, {2, 3}, {1, 1}, {1, 2, 2}, {1, 1, 2}, {2, 1}, {1, 3, 2}, {0, 1}, {0, 1, 2}, {1, 0}, {1, 2, 0}, {1, 2, -3}, {1, 2, 4}, {1 << 32, 2}, {1, 1<<32 + 2}, {math.MinInt}, {math.MaxInt}} {
		var l []api.Proc
		for _, n := range pids {
			l = append(l, ready(n))
		}
		expectCheck(t, fmt.Sprint("pids ", pids), of(l...), sound.Order)
		expectCheck(t, fmt.Sprint("pids ", pids, ", not calmed"), stillOf(l...), sound.Order)
	}
}

// Halves are held against each other by their Pid or Ref, by nothing else, and also of processes that are not alive.
func TestP2001OrderHalves(t *testing.T) {
	for _, l := range [][]int{{2, 1}, {1, 1}, {1, 2, 2}, {1, 3, 2}, {3, 1, 2}, {1, 0}, {0, -1}, {math.MaxInt, math.MinInt}, {math.MaxInt, math.MaxInt}} {
		var links, origins, targets []trait
		for i, n := range l {
			links = append(links, half(n, api.Unlinking, i+1))
			origins = append(origins, origin(n, 10+i))
			targets = append(targets, target(n, 10+i))
		}
		for _, halves := range [][]trait{links, origins, targets} {
			for _, state := range []int{api.PReady, api.PWaiting, api.PExiting} {
				expectCheck(t, fmt.Sprint("halves of ", l), stillOf(process(1, state, halves...)), sound.Order)
				expectCheck(t, fmt.Sprint("halves of ", l, " behind others"), stillOf(ready(1), ready(2), process(3, state, halves...)), sound.Order)
			}
			expectCheck(t, fmt.Sprint("halves of an ended one, ", l), stillOf(ended(1, halves...)), sound.Order, sound.Alive)
			expectCheck(t, fmt.Sprint("halves of no state, ", l), stillOf(process(1, 9, halves...)), sound.Order, sound.Ghost)
		}
	}
	for _, l := range [][]int{{}, {7}, {0}, {-3}, {-2, -1, 0, 1}, {1, 3, 9}, {math.MinInt, math.MaxInt}} {
		var links, origins, targets []trait
		for i, n := range l {
			links = append(links, half(n, api.Unlinking, 9-i))
			origins = append(origins, origin(n, 10-i))
			targets = append(targets, target(n, 10-i))
		}
		expectCheck(t, fmt.Sprint("halves of ", l), stillOf(ready(1, slices.Concat(links, origins, targets)...)))
	}
}

func TestP2001OrderLanes(t *testing.T) {
	signal := func(from, to int) api.Signal { return api.Signal{From: from, To: to, Kind: api.SLink} }
	for i, l := range [][]api.Lane{
		{lane(1, 2, 0)},
		{lane(1, 2, 1), lane(2, 1, 0)},
		{lane(1, 2, 0), lane(2, 1, 1)},
		{lane(2, 1, 1), lane(1, 2, 1)},
		{lane(1, 2, 1), lane(1, 1, 1)},
		{lane(1, 2, 1), lane(1, 2, 1)},
		{lane(1, 2, 1), lane(1, 2, 3)},
		{lane(1, 1, 1), lane(2, 1, 1), lane(1, 2, 1)},
		{lane(1, 1, 1), lane(1, 2, 1), lane(1, 2, 1)},
		{lane(1, 9, 1), lane(2, 1, 1), lane(2, 1, 1)},
		{{From: 1, To: 2, Signals: []api.Signal{signal(2, 2)}}},
		{{From: 1, To: 2, Signals: []api.Signal{signal(1, 1)}}},
		{{From: 1, To: 2, Signals: []api.Signal{signal(2, 1)}}},
		{{From: 1, To: 2, Signals: []api.Signal{signal(1, 2), signal(1, 3)}}},
		{{From: 1, To: 2, Signals: []api.Signal{signal(1, 2), signal(3, 2), signal(1, 2)}}},
		{lane(1, 1, 2), {From: 1, To: 2, Signals: []api.Signal{signal(1, 1)}}},
		{{From: 1, To: 1, Signals: []api.Signal{signal(1, 2)}}, lane(1, 2, 2)},
		{{From: math.MaxInt, To: 1, Signals: []api.Signal{signal(math.MaxInt, 1)}}, {From: math.MinInt, To: 1, Signals: []api.Signal{signal(math.MinInt, 1)}}},
		{{From: 1, To: math.MaxInt, Signals: []api.Signal{signal(1, math.MaxInt)}}, {From: 1, To: math.MinInt, Signals: []api.Signal{signal(1, math.MinInt)}}},
	} {
		expectCheck(t, fmt.Sprint("lanes ", i), api.State{Lanes: l}, sound.Order)
		expectCheck(t, fmt.Sprint("lanes ", i, " with processes"), with(of(ready(1), ready(2)), l...), sound.Order)
	}
	for i, l := range [][]api.Lane{
		{lane(-2, -5, 1), lane(-2, 0, 1), lane(0, -9, 1), lane(0, 0, 1)},
		{lane(1, 9, 1), lane(2, 1, 1), lane(2, 2, 1), lane(3, 1, 1)},
		{lane(math.MinInt, math.MaxInt, 1), lane(math.MaxInt, math.MinInt, 1), lane(math.MaxInt, math.MaxInt, 1)},
		{{From: 1, To: 2, Signals: []api.Signal{{From: 1, To: 2, Kind: 99, Id: -1, Ref: -1, Link: true, Name: "a", Term: tuple(api.Term{})}, {From: 1, To: 2}}}},
	} {
		expectCheck(t, fmt.Sprint("right lanes ", i), api.State{Lanes: l})
	}
}

func TestP2001GhostState(t *testing.T) {
	for _, n := range append([]int{0, 5, 6, 1<<32 + 1}, beyond...) {
		expectCheck(t, fmt.Sprint("a process in state ", n), of(process(1, n)), sound.Ghost)
		expectCheck(t, fmt.Sprint("a process in state ", n, " behind others"), stillOf(ready(1), ended(2), process(3, n)), sound.Ghost)
		// one that is neither alive nor exiting nor ended may have anything
		expectCheck(t, fmt.Sprint("a laden process in state ", n), of(process(1, n, linked(7), origin(1, 7), target(2, 7), named("a"), has(atom("x")), because(atom("x")), traps)), sound.Ghost)
		// and it has not ended
		expectCheck(t, fmt.Sprint("halves with a process in state ", n), of(ready(1, linked(2), origin(1, 2), target(2, 2)), process(2, n, linked(1), origin(2, 1), target(1, 1))), sound.Ghost)
		for _, state := range []int{api.PReady, api.PWaiting, api.PExiting, api.PEnded} {
			for _, id := range []int{-1, 0, 1} {
				want := rules(sound.Ghost)
				if state == api.PEnded {
					want = rules(sound.Ghost, sound.Alive)
				}
				expectCheck(t, fmt.Sprint("a half-link in state ", n), stillOf(process(1, state, half(2, n, id))), want...)
			}
		}
	}
}

// An Id is above 0 just where the half-link is Unlinking.
func TestP2001GhostId(t *testing.T) {
	for _, c := range []struct {
		state, id int
		right     bool
	}{
		{api.Linked, 0, true}, {api.Linked, -1, true}, {api.Linked, math.MinInt, true}, {api.Linked, 1, false}, {api.Linked, math.MaxInt, false},
		{api.Unlinking, 1, true}, {api.Unlinking, 2, true}, {api.Unlinking, math.MaxInt, true}, {api.Unlinking, 0, false}, {api.Unlinking, -1, false}, {api.Unlinking, math.MinInt, false},
	} {
		var want []sound.Rule
		if !c.right {
			want = rules(sound.Ghost)
		}
		what := fmt.Sprintf("a half-link %d with Id %d", c.state, c.id)
		for _, state := range []int{api.PReady, api.PWaiting, api.PExiting} {
			expectCheck(t, what, stillOf(process(1, state, half(2, c.state, c.id))), want...)
			expectCheck(t, what+" behind others", stillOf(ready(1, linked(4)), process(2, state, linked(1), half(2, c.state, c.id), half(3, api.Unlinking, 1))), want...)
		}
		expectCheck(t, what+" of an ended one", stillOf(ended(1, half(2, c.state, c.id))), append(want, sound.Alive)...)
	}
}

func TestP2001Alive(t *testing.T) {
	lively := []trait{has(atom("a")), has(api.Term{}), named("a"), named(""), traps}
	halves := []trait{linked(2), half(2, api.Unlinking, 1), origin(1, 2), origin(1, 0), target(1, 2)}
	for i, x := range append(slices.Clone(lively), halves...) {
		what := fmt.Sprint("trait ", i)
		expectCheck(t, what+" of a ready one", stillOf(ready(1, x)))
		expectCheck(t, what+" of a waiting one", stillOf(waiting(1, x)))
		expectCheck(t, what+" of an ended one", stillOf(ended(1, x)), sound.Alive)
		expectCheck(t, what+" of an ended one behind others", stillOf(ready(1), ready(2), ended(3, x)), sound.Alive)
		if i < len(lively) {
			expectCheck(t, what+" of an exiting one", of(exiting(1, x)), sound.Alive)
		} else {
			expectCheck(t, what+" of an exiting one", of(exiting(1, x)))
		}
	}
	for _, x := range []api.Term{atom("normal"), tuple(), {Kind: -1}, {Kind: 99}, whole(0)} {
		expectCheck(t, "a ready one with a reason", of(ready(1, because(x))), sound.Alive)
		expectCheck(t, "a waiting one with a reason", of(ended(1), waiting(2, because(x))), sound.Alive)
		expectCheck(t, "an exiting one with a reason", of(exiting(1, because(x))))
		expectCheck(t, "an ended one with a reason", of(ended(1, because(x))))
	}
	for _, x := range []api.Term{{}, {N: 1}, {S: "a"}, {L: []api.Term{atom("a")}}, {F: 1}} { // of Kind 0
		expectCheck(t, "a ready one without a reason", of(ready(1, because(x))))
		expectCheck(t, "a waiting one without a reason", of(waiting(1, because(x))))
		expectCheck(t, "an exiting one without a reason", of(exiting(1, because(x))))
		expectCheck(t, "an ended one without a reason", of(ended(1, because(x))))
	}
}

func TestP2001Named(t *testing.T) {
	for i, l := range [][]api.Proc{
		{ready(1, named("a", "b"))},
		{ready(1, named("a", "a"))},
		{ready(1), waiting(2, named("a", "b", "c"))},
		{ready(1, named("", ""))},
		{ready(1, named("a")), waiting(2, named("a"))},
		{ready(1, named("")), ready(2, named(""))},
		{ready(1, named("a")), ready(2, named("b")), ready(3, named("a"))},
		{process(1, 9, named("a")), process(2, 9, named("b")), process(3, 9, named("a"))},
		{ready(1, named("a")), ready(1, named("a"))},
		{exiting(1, named("a", "b"))},
		{ready(1, named("a")), ended(2, named("a"))},
	} {
		want := said(stillOf(l...))
		if !slices.Contains(want, sound.Named) {
			t.Errorf("names %d: the tests' own rules tell %v", i, want)
		}
		expectCheck(t, fmt.Sprint("names ", i), stillOf(l...), want...)
	}
	expectCheck(t, "one with two names", of(ready(1, named("a", "b"))), sound.Named)
	expectCheck(t, "one with the same name twice", of(ready(1, named("a", "a"))), sound.Named)
	expectCheck(t, "two with the same name", of(ready(1, named("a")), ready(2, named("a"))), sound.Named)
	// a name by which one was asked for is none that a process has
	expectCheck(t, "an origin's name", stillOf(ready(1, named("a"), byName(1, 2, "a"), byName(2, 2, "a")), ready(2, byName(3, 0, "a"))))
}

func TestP2001Calm(t *testing.T) {
	both := func(p api.Proc) []api.Proc { return []api.Proc{p, ready(2, linked(1))} }
	expectCheck(t, "an Unlinking half-link", of(both(ready(1, half(2, api.Unlinking, 1)))...), sound.Calm)
	expectCheck(t, "an Unlinking half-link of a waiting one", of(both(waiting(1, half(2, api.Unlinking, 1)))...), sound.Calm)
	expectCheck(t, "an Unlinking half-link behind others", of(ready(1, linked(1, 2), half(3, api.Unlinking, 1)), ready(2, linked(1)), ready(3, linked(1))), sound.Calm)
	expectCheck(t, "an Unlinking half-link with a signal under way", with(of(both(ready(1, half(2, api.Unlinking, 1)))...), lane(1, 2, 1)))
	expectCheck(t, "an Unlinking half-link with one that is exiting", of(append(both(ready(1, half(2, api.Unlinking, 1))), exiting(3))...))
	expectCheck(t, "an Unlinking half-link of an ended one", of(ended(1, half(2, api.Unlinking, 1)), ready(2)), sound.Alive, sound.Calm)
	expectCheck(t, "an Unlinking half-link of one in no state", of(process(1, 0, half(2, api.Unlinking, 1)), ready(2)), sound.Ghost, sound.Calm)
	expectCheck(t, "a half-link in no state", of(both(ready(1, half(2, 0, 0)))...), sound.Ghost, sound.Calm)
	expectCheck(t, "an Unlinking half-link, lanes without signals", with(of(both(ready(1, half(2, api.Unlinking, 1)))...), lane(1, 2, 0), lane(2, 1, 0)), sound.Order, sound.Calm)
}

func TestP2001Mutual(t *testing.T) {
	for _, c := range []struct {
		what string
		s    api.State
		want []sound.Rule
	}{
		{"with one that has none", of(ready(1, linked(2)), ready(2)), rules(sound.Mutual)},
		{"of a waiting one with one that has none", of(ready(1), waiting(2, linked(1))), rules(sound.Mutual)},
		{"with one that has another one", of(ready(1, linked(2)), ready(2, linked(3)), ready(3, linked(2))), rules(sound.Mutual)},
		{"with one that has its monitors alone", of(ready(1, linked(2), origin(1, 2), target(2, 2)), ready(2, origin(2, 1), target(1, 1))), rules(sound.Mutual)},
		{"with one that is not there", of(ready(1, linked(9))), rules(sound.Mutual, sound.Dead)},
		{"with nobody", of(ready(1, linked(0))), rules(sound.Mutual, sound.Dead)},
		{"with one that has ended", of(ready(1, linked(2)), ended(2)), rules(sound.Mutual, sound.Dead)},
		{"with one that has ended and has it", of(ready(1, linked(2)), ended(2, linked(1))), rules(sound.Alive, sound.Dead)},
		{"with one in no state that has none", of(ready(1, linked(2)), process(2, 0)), rules(sound.Ghost, sound.Mutual)},
		{"with itself", of(ready(1, linked(1))), nil},
		{"with one that is Unlinking", of(ready(1, linked(2)), ready(2, half(1, api.Unlinking, 1))), rules(sound.Calm)},
		{"of an ended one", of(ended(1, linked(2)), ready(2)), rules(sound.Alive)},
		{"of one in no state", of(process(1, 0, linked(2)), ready(2)), rules(sound.Ghost)},
		{"the second one", of(ready(1, linked(2, 3)), ready(2, linked(1)), ready(3)), rules(sound.Mutual)},
		{"with a signal under way", stillOf(ready(1, linked(2, 9)), ready(2)), nil},
		{"with one that is exiting", of(ready(1, linked(2, 9)), exiting(2)), nil},
		{"with the first one of two", of(ready(1, linked(2)), ready(2, linked(1)), ready(2)), rules(sound.Order)},
		{"with the second one of two", of(ready(1, linked(2)), ready(2), ready(2, linked(1))), rules(sound.Order, sound.Mutual)},
		{"with itself, the second one of two", of(ready(1), ready(1, linked(1))), rules(sound.Order, sound.Mutual)},
		{"with itself, the first one of two", of(ready(1, linked(1)), ready(1)), rules(sound.Order)},
		{"with one of a Pid below 0", of(ready(1, linked(-7)), ready(-7, linked(1))), rules(sound.Order)},
	} {
		expectCheck(t, "a half-link "+c.what, c.s, c.want...)
	}
}

func TestP2001Dead(t *testing.T) {
	for _, c := range []struct {
		what string
		s    api.State
		want []sound.Rule
	}{
		{"a half-link with one that has ended", of(ended(1), ready(2, linked(1))), rules(sound.Mutual, sound.Dead)},
		{"a half-link with one that is not there", of(ready(1, linked(2))), rules(sound.Mutual, sound.Dead)},
		{"an origin with one that has ended", of(ready(1, origin(1, 2)), ended(2)), rules(sound.Dead, sound.Paired)},
		{"an origin with one that is not there", of(waiting(1, origin(1, 2))), rules(sound.Dead, sound.Paired)},
		{"an origin with one of a Pid below 0", of(waiting(1, origin(1, -2))), rules(sound.Dead, sound.Paired)},
		{"an origin with nobody", of(ready(1, origin(1, 0), byName(2, 0, "a"))), nil},
		{"an origin with nobody who has ended", of(ready(1, origin(1, 0)), ended(0)), rules(sound.Order)},
		{"an origin by name with one that has ended", of(ready(1, byName(1, 2, "a")), ended(2)), rules(sound.Dead, sound.Paired)},
		{"a target with one that has ended", of(ready(1, target(1, 2)), ended(2)), rules(sound.Dead, sound.Paired)},
		{"a target with one that is not there", of(waiting(1, target(1, 2))), rules(sound.Dead, sound.Paired)},
		{"a target with nobody", of(ready(1, target(1, 0))), rules(sound.Dead, sound.Paired)},
		{"a target with nobody who is there", of(ready(1, target(1, 0)), ready(0, origin(1, 1))), rules(sound.Order)},
		{"halves of an ended one", of(ended(1, linked(9), origin(1, 9), target(2, 9))), rules(sound.Alive)},
		{"halves of one in no state", of(process(1, 0, linked(9), origin(1, 9), target(2, 9))), rules(sound.Ghost)},
		{"halves with a signal under way", stillOf(ready(1, linked(9), origin(1, 9), target(2, 9))), nil},
		{"halves with one exiting", of(ready(1, linked(9), origin(1, 9), target(2, 9)), exiting(2)), nil},
		{"halves with one that ended and has its own", of(ready(1, origin(1, 2), target(2, 2)), ended(2, origin(2, 1), target(1, 1))), rules(sound.Alive, sound.Dead)},
		{"the second half-link", of(ready(1, linked(2, 3)), ready(2, linked(1)), ended(3, linked(1))), rules(sound.Alive, sound.Dead)},
		{"the second origin", of(ready(1, origin(1, 2), origin(2, 3)), ready(2, target(1, 1)), ended(3, target(2, 1))), rules(sound.Alive, sound.Dead)},
		{"the second target", of(ready(1, target(1, 2), target(2, 3)), ready(2, origin(1, 1)), ended(3, origin(2, 1))), rules(sound.Alive, sound.Dead)},
		{"with two, of whom the first one has ended", of(ready(1, linked(2)), ended(2, linked(1)), ready(2, linked(1))), rules(sound.Order, sound.Alive, sound.Dead)},
		{"with two, of whom the second one has ended", of(ready(1, linked(2)), ready(2, linked(1)), ended(2)), rules(sound.Order)},
	} {
		expectCheck(t, c.what, c.s, c.want...)
	}
}

func TestP2001Paired(t *testing.T) {
	for _, c := range []struct {
		what string
		s    api.State
		want []sound.Rule
	}{
		{"an origin alone", of(ready(1, origin(1, 2)), ready(2)), rules(sound.Paired)},
		{"an origin alone of a waiting one", of(ready(1), waiting(2, origin(1, 1))), rules(sound.Paired)},
		{"a target alone", of(ready(1, target(1, 2)), ready(2)), rules(sound.Paired)},
		{"a target alone of a waiting one", of(ready(1), waiting(2, target(1, 1))), rules(sound.Paired)},
		{"both", of(ready(1, origin(1, 2)), ready(2, target(1, 1))), nil},
		{"other references", of(ready(1, origin(1, 2)), ready(2, target(2, 1))), rules(sound.Paired)},
		{"another origin", of(ready(1, origin(1, 2)), ready(2, target(1, 3)), ready(3, origin(1, 2))), rules(sound.Paired)},
		{"another target", of(ready(1, target(1, 2)), ready(2, origin(1, 3)), ready(3, target(1, 2))), rules(sound.Paired)},
		{"a target elsewhere", of(ready(1, origin(1, 2)), ready(2), ready(3, target(1, 1))), rules(sound.Paired)},
		{"two origins", of(ready(1, origin(1, 2)), ready(2, origin(1, 1))), rules(sound.Paired)},
		{"two targets", of(ready(1, target(1, 2)), ready(2, target(1, 1))), rules(sound.Paired)},
		{"half-links instead", of(ready(1, origin(1, 2), linked(2)), ready(2, linked(1))), rules(sound.Paired)},
		{"the second origin", of(ready(1, origin(1, 2), origin(2, 2)), ready(2, target(1, 1))), rules(sound.Paired)},
		{"the second target", of(ready(1, origin(1, 2)), ready(2, target(1, 1), target(2, 1))), rules(sound.Paired)},
		{"both with itself", of(ready(1, origin(1, 1), target(1, 1))), nil},
		{"an origin with itself", of(ready(1, origin(1, 1))), rules(sound.Paired)},
		{"a target with itself", of(ready(1, target(1, 1))), rules(sound.Paired)},
		{"an origin of nobody", of(ready(1, origin(1, 0))), nil},
		{"an origin of nobody who is there", of(ready(1, origin(1, 0)), ready(0)), rules(sound.Order)},
		{"a target of an origin that asked for nobody", of(ready(1, origin(1, 0)), ready(2, target(1, 1))), rules(sound.Paired)},
		{"an origin by name", of(ready(1, byName(1, 2, "a")), ready(2, target(1, 1))), nil},
		{"of an ended one", of(ended(1, origin(1, 2), target(2, 2)), ready(2)), rules(sound.Alive)},
		{"of one in no state", of(process(1, 0, origin(1, 2), target(2, 2)), ready(2)), rules(sound.Ghost)},
		{"with one in no state", of(ready(1, origin(1, 2)), process(2, 0, target(1, 1))), rules(sound.Ghost)},
		{"with a signal under way", stillOf(ready(1, origin(1, 2), target(2, 2)), ready(2)), nil},
		{"with one that is exiting", of(ready(1, origin(1, 2), target(2, 2)), exiting(2)), nil},
		{"with the first one of two", of(ready(1, origin(1, 2)), ready(2, target(1, 1)), ready(2)), rules(sound.Order)},
		{"with the second one of two", of(ready(1, origin(1, 2)), ready(2), ready(2, target(1, 1))), rules(sound.Order, sound.Paired)},
		{"the same twice", of(ready(1, origin(1, 2), origin(1, 2)), ready(2, target(1, 1))), rules(sound.Order)},
	} {
		expectCheck(t, "monitors: "+c.what, c.s, c.want...)
	}
}

// Numbers are held against each other whole.
func TestP2001Wide(t *testing.T) {
	const far = 1 << 32
	for i, s := range []api.State{
		of(ready(1, linked(2)), ready(2, linked(1+far))),
		of(ready(1, linked(2+far)), ready(2, linked(1))),
		of(ready(1, origin(1, 2)), ready(2, target(1+far, 1))),
		of(ready(1, origin(1, 2)), ready(2, target(1, 1+far))),
		of(ready(1, origin(1, far))),
	} {
		if got, want := sound.Check(s), said(s); !slices.Equal(got, want) || len(want) == 0 {
			t.Errorf("P2001 Check of wide state %d: %v; want %v", i, got, want)
		}
	}
}

// A state may be as great as a VM's: no half is looked for among all others.
func TestP2001Great(t *testing.T) {
	var s api.State
	for i := range api.MaxProcs {
		p := ready(i + 1)
		for j := range api.MaxProcs {
			linked(j + 1)(&p)
		}
		s.Procs = append(s.Procs, p)
	}
	for r := range api.MaxRefs {
		origin(r+1, 2)(&s.Procs[0])
		target(r+1, 1)(&s.Procs[1])
	}
	if l := sound.Check(s); len(l) != 0 {
		t.Errorf("P2001 Check of a great state: %v", l)
	}
	s.Procs[500].Links = slices.Delete(s.Procs[500].Links, 700, 701)
	s.Procs[1].Targets[api.MaxRefs-1].Ref++
	if l := sound.Check(s); !slices.Equal(l, rules(sound.Mutual, sound.Paired)) {
		t.Errorf("P2001 Check of a great state: %v", l)
	}
}
