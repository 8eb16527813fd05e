package sound_test

import (
	"fmt"
	"math"
	"slices"
	"testing"

	"exitwave/api"
	"exitwave/sound"
)

func TestP2003Find(t *testing.T) {
	full := ready(2, linked(1, 5), half(7, 9, -1), origin(1, 2), byName(3, 0, "a"), target(4, 2), named("a", "b"), has(down(1), api.Term{}, list(tuple(atom("x")))), because(tuple(list(whole(1)))), traps)
	s := of(ready(5), full, ended(2, named("second")), process(0, 0), process(-3, -1), exiting(5, traps), waiting(math.MaxInt), waiting(math.MinInt))
	for _, c := range []struct {
		pid, place int
	}{{5, 0}, {2, 1}, {0, 3}, {-3, 4}, {math.MaxInt, 6}, {math.MinInt, 7}} {
		if p, is := sound.Find(s, c.pid); !is || all(p) != all(s.Procs[c.place]) {
			t.Errorf("P2003 Find of %d: %+v, %v; want %+v", c.pid, p, is, s.Procs[c.place])
		}
	}
	for _, pid := range []int{1, 3, 4, 6, -1, -2, 1<<32 + 2, 1 << 62} {
		if p, is := sound.Find(s, pid); is || all(p) != all(api.Proc{}) {
			t.Errorf("P2003 Find of %d, which is not there: %+v, %v", pid, p, is)
		}
	}
	for _, pid := range append([]int{0, 1}, beyond...) {
		if p, is := sound.Find(api.State{}, pid); is || all(p) != all(api.Proc{}) {
			t.Errorf("P2003 Find of %d in nothing: %+v, %v", pid, p, is)
		}
	}
}

func TestP2003Downs(t *testing.T) {
	rest := []api.Term{atom("process"), atom("a"), atom("b")}
	message := func(first, second api.Term, more ...api.Term) api.Term {
		return tuple(append([]api.Term{first, second}, more...)...)
	}
	right := message(atom("DOWN"), ref(3), rest...)
	for i, c := range []struct {
		x    api.Term
		want int
	}{
		{right, 1},
		{message(atom("DOWN"), ref(3), whole(1), list(), api.Term{}), 1}, // whatever stands behind the first two
		{message(atom("DOWN"), ref(3), right, right, right), 1},          // what is within a message is none
		{message(atom("DOWN"), ref(3), rest[:2]...), 0},
		{message(atom("DOWN"), ref(3), append(rest, atom("c"))...), 0},
		{message(atom("DOWN"), ref(3)), 0},
		{tuple(atom("DOWN")), 0},
		{tuple(), 0},
		{message(atom("DOWN"), ref(4), rest...), 0},
		{message(atom("DOWN"), ref(-3), rest...), 0},
		{message(atom("DOWN"), ref(1<<32+3), rest...), 0},
		{message(atom("DOWN"), whole(3), rest...), 0},
		{message(atom("DOWN"), api.Term{Kind: api.KPid, N: 3}, rest...), 0},
		{message(atom("DOWN"), api.Term{Kind: api.KFun, N: 3}, rest...), 0},
		{message(atom("DOWN"), atom("3"), rest...), 0},
		{message(atom("DOWN"), tuple(ref(3)), rest...), 0},
		{message(atom("DOWN"), api.Term{N: 3}, rest...), 0},
		{message(atom("down"), ref(3), rest...), 0},
		{message(atom("EXIT"), ref(3), rest...), 0},
		{message(atom(""), ref(3), rest...), 0},
		{message(atom("DOWN "), ref(3), rest...), 0},
		{message(atom("DOW"), ref(3), rest...), 0},
		{message(whole(3), ref(3), rest...), 0},
		{message(list(atom("DOWN")), ref(3), rest...), 0},
		{message(api.Term{Kind: api.KRef, S: "DOWN"}, ref(3), rest...), 0},
		{message(api.Term{S: "DOWN"}, ref(3), rest...), 0},
		{message(ref(3), atom("DOWN"), rest...), 0},
		{list(right.L...), 0},
		{api.Term{Kind: api.KFun, N: 1, L: right.L}, 0},
		{api.Term{L: right.L}, 0},
		{api.Term{Kind: 99, L: right.L}, 0},
		{tuple(right), 0},
		{list(right), 0},
		{api.Term{}, 0},
		{atom("DOWN"), 0},
		{ref(3), 0},
	} {
		for _, state := range []int{api.PReady, api.PWaiting, api.PExiting, api.PEnded, 0, 99} {
			s := of(ready(1), process(2, state, has(c.x)))
			if got := sound.Downs(s, 2, 3); got != c.want {
				t.Errorf("P2003 Downs of message %d: %d; want %d", i, got, c.want)
			}
		}
	}
}

func TestP2003DownsMany(t *testing.T) {
	s := of(ready(1, has(down(3), atom("x"), down(3), down(4), list(), down(3))), ready(2, has(down(3))), ready(3), ready(2, has(down(3), down(5))), ended(0, has(down(0), down(-1))))
	s.Lanes = []api.Lane{{From: 2, To: 1, Signals: []api.Signal{{From: 2, To: 1, Kind: api.SMessage, Term: down(3)}}}}
	s.Out = []api.Term{down(3)}
	for _, c := range []struct{ pid, ref, want int }{
		{1, 3, 3}, {1, 4, 1}, {1, 5, 0}, {1, 0, 0}, {2, 3, 1}, {2, 5, 0}, {3, 3, 0}, {0, 0, 1}, {0, -1, 1}, {0, 1, 0}, {4, 3, 0}, {-1, 3, 0}, {1<<32 + 1, 3, 0}, {math.MaxInt, 3, 0}, {math.MinInt, 3, 0},
	} {
		if got := sound.Downs(s, c.pid, c.ref); got != c.want {
			t.Errorf("P2003 Downs of %d, %d: %d; want %d", c.pid, c.ref, got, c.want)
		}
	}
	for _, n := range append([]int{0, 1, 3}, beyond...) {
		if got := sound.Downs(api.State{}, n, 3) + sound.Downs(of(ready(1)), 1, n); got != 0 {
			t.Errorf("P2003 Downs of nothing: %d", got)
		}
	}
}

// told is what a loop over Lanes is told, up to so many signals.
func told(s api.State, most int) []string {
	var l []string
	for place, x := range sound.Lanes(s) {
		if len(l) == most {
			break
		}
		l = append(l, fmt.Sprintf("%d %+v", place, x))
	}
	return l
}

func TestP2003Lanes(t *testing.T) {
	signal := api.Signal{From: 4, To: 5, Kind: api.SExit, Id: 1, Ref: 2, Link: true, Name: "n", Term: tuple(list(atom("a")))}
	s := api.State{Lanes: []api.Lane{lane(1, 2, 0), lane(3, 1, 2), lane(1, 2, 0), {From: 1, To: 1, Signals: []api.Signal{signal, {}, signal}}, lane(3, 1, 1), lane(0, 0, 0)}}
	three := api.Signal{From: 3, To: 1, Kind: api.SLink}
	var want []string
	for _, c := range []struct {
		place  int
		signal api.Signal
	}{{0, three}, {1, three}, {0, signal}, {1, api.Signal{}}, {2, signal}, {0, three}} { // lane by lane, in the lanes' own order
		want = append(want, fmt.Sprintf("%d %+v", c.place, c.signal))
	}
	for most := range 8 { // left early anywhere, also ahead of the first one
		if got := told(s, most); !slices.Equal(got, want[:min(most, 6)]) {
			t.Errorf("P2003 Lanes: %v; want %v", got, want[:min(most, 6)])
		}
	}
	for _, s := range []api.State{{}, {Lanes: []api.Lane{}}, of(ready(1, has(atom("a")))), with(of(), lane(1, 2, 0)), with(of(), lane(1, 2, 0), lane(1, 2, 0))} {
		if got := told(s, 9); len(got) != 0 {
			t.Errorf("P2003 Lanes of nothing: %v", got)
		}
	}
}

// A sequence may be ranged over again, also while it is ranged over, and when it was left early (P7).
func TestP2003LanesAgain(t *testing.T) {
	sequence := sound.Lanes(with(of(), lane(1, 2, 2), lane(2, 1, 1)))
	var whole, left []int
	for place := range sequence {
		for inner, x := range sequence {
			whole = append(whole, inner*10+x.From)
		}
		left = append(left, place)
		if len(left) == 2 {
			break
		}
	}
	for place := range sequence {
		left = append(left, place)
	}
	if !slices.Equal(whole, []int{1, 11, 2, 1, 11, 2}) || !slices.Equal(left, []int{0, 1, 0, 1, 0}) {
		t.Errorf("P7 Lanes: %v, %v", whole, left)
	}
}

// The loop's body is not called any more when it has said so.
func TestP2003LanesLeft(t *testing.T) {
	for most := range 5 {
		calls := 0
		sound.Lanes(with(of(), lane(1, 2, 2), lane(2, 1, 2)))(func(int, api.Signal) bool {
			calls++
			return calls <= most
		})
		if want := min(most+1, 4); calls != want {
			t.Errorf("P2003 Lanes: the body was called %d times; want %d", calls, want)
		}
	}
}
