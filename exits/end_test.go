package exits_test

import (
	"math"
	"testing"

	"exitwave/api"
	"exitwave/exits"
)

func TestP1605Emit(t *testing.T) {
	for _, x := range rights() {
		for _, way := range ways {
			expectEmit(t, way[0], x, api.Half{Pid: way[1], State: api.Linked}, exitOf(way[0], way[1], true, x))
		}
	}
}

func TestP1605EmitUnlinking(t *testing.T) {
	for _, x := range rights() {
		for _, id := range []int{1, 2, math.MaxInt} {
			expectEmit(t, 5, x, api.Half{Pid: 6, State: api.Unlinking, Id: id}, api.Signal{})
		}
	}
}

func TestP1605Tell(t *testing.T) {
	for _, x := range rights() {
		for _, way := range ways {
			for _, n := range []int{1, 3, far} {
				expectTell(t, way[0], x, api.Mon{Ref: n, Pid: way[1]}, downOf(way[0], way[1], n, x))
			}
		}
	}
}

func TestP1605Leave(t *testing.T) {
	for _, way := range ways {
		for _, n := range []int{1, 3, far} {
			for _, name := range []string{"", "a", "noproc"} {
				expectLeave(t, way[0], api.Mon{Ref: n, Pid: way[1], Name: name}, api.Signal{From: way[0], To: way[1], Kind: api.SDemonitor, Ref: n})
				expectLeave(t, way[0], api.Mon{Ref: n, Name: name}, api.Signal{})
			}
		}
	}
}

// None of them panics, or goes on without an end, whatever it is handed (P1, P8), and none changes it (P2).
func TestP1605Wrong(t *testing.T) {
	numbers := []int{math.MinInt, -1, 0, 1, far + 1, math.MaxInt}
	for _, self := range numbers {
		for _, n := range numbers {
			for _, state := range numbers {
				exits.Emit(self, atom("a"), api.Half{Pid: n, State: state, Id: n})
			}
			exits.Tell(self, atom("a"), api.Mon{Ref: n, Pid: n})
			exits.Leave(self, api.Mon{Ref: n, Pid: n})
		}
	}
	for _, x := range wrongs() {
		given := copied(x)
		exits.Emit(5, given, api.Half{Pid: 6, State: api.Linked})
		exits.Emit(5, given, api.Half{Pid: 6, State: api.Unlinking, Id: 1})
		exits.Tell(5, given, api.Mon{Ref: 3, Pid: 6})
		if !alikeTerm(given, copied(x)) || !roomStands(given) {
			t.Errorf("P2 Emit, Tell of %s changed what they were given", said(x))
		}
	}
}

// One reason goes along many half-links and monitors, and each signal has its own (P2).
func TestP1605Own(t *testing.T) {
	for _, x := range rights() {
		given := copied(x)
		var told []api.Signal
		for to := 6; to < 9; to++ {
			s, _ := exits.Emit(5, given, api.Half{Pid: to, State: api.Linked})
			told = append(told, s, exits.Tell(5, given, api.Mon{Ref: 3, Pid: to}))
		}
		if !alikeTerm(given, x) || !roomStands(given) {
			t.Errorf("P2 Emit, Tell of %s changed what they were given", said(x))
		}
		spoilt(given)
		for _, s := range told {
			if !alikeTerm(s.Term, x) {
				t.Errorf("P2 Emit, Tell of %s: share memory", said(x))
			}
			spoilt(s.Term)
		}
	}
}
