package exits_test

import (
	"math"
	"strings"
	"testing"

	"exitwave/api"
	"exitwave/exits"
)

// downMessage says P1603's message once more.
func downMessage(s api.Signal, m api.Mon) exits.Outcome {
	what := pid(m.Pid)
	if len(m.Name) > 0 {
		what = atom(m.Name)
	}
	x := tuple(atom("DOWN"), ref(s.Ref), atom("process"), what, s.Term)
	if !within(x) {
		x.L[4] = atom("system_limit")
	}
	return messageOf(x)
}

// halves are those of which a message can be made.
var halves = []api.Mon{
	{Ref: 7, Pid: 2}, {Ref: 7}, {Ref: 7, Pid: far}, {Ref: 7, Pid: far - 1}, {Ref: 7, Pid: 1},
	{Ref: 7, Name: "n"}, {Ref: 7, Pid: 2, Name: "n"}, {Ref: 7, Pid: far, Name: "\x00"}, {Ref: 7, Name: "undefined"}, {Ref: 7, Name: " "},
	{Ref: 7, Name: strings.Repeat("n", api.MaxAtom-1)}, {Ref: 7, Name: strings.Repeat("n", api.MaxAtom)}, {Ref: 7, Pid: 2, Name: strings.Repeat("\xff", api.MaxAtom)},
}

// wrongHalves are those of which none can be made.
var wrongHalves = []api.Mon{
	{Ref: 7, Name: strings.Repeat("n", api.MaxAtom+1)}, {Ref: 7, Pid: 2, Name: strings.Repeat("n", api.MaxAtom+1)}, {Ref: 7, Name: strings.Repeat("n", 1000)}, {Ref: 7, Name: strings.Repeat("ä", api.MaxAtom/2+1)},
	{Ref: 7, Pid: -1}, {Ref: 7, Pid: far + 1}, {Ref: 7, Pid: math.MinInt}, {Ref: 7, Pid: math.MaxInt}, {Ref: 7, Pid: -1, Name: "n"}, {Ref: 7, Pid: far + 1, Name: "n"},
	{Ref: 7, Pid: -1, Name: strings.Repeat("n", api.MaxAtom+1)},
}

func TestP1603Messages(t *testing.T) {
	for _, m := range halves {
		for _, x := range append(smalls(), bounds()[0], wide(api.MaxWords)) {
			s := downOf(2, 1, 7, x)
			expectDown(t, s, m, downMessage(s, m), api.OK)
		}
		for _, n := range []int{1, 2, 7, 1 << 20, far - 1, far} {
			s := downOf(2, 1, n, atom("noproc"))
			expectDown(t, s, m, downMessage(s, m), api.OK)
		}
	}
}

func TestP1603WrittenOut(t *testing.T) {
	s := downOf(2, 1, 7, atom("r"))
	expectDown(t, s, api.Mon{Ref: 7, Pid: 2}, messageOf(tuple(atom("DOWN"), ref(7), atom("process"), pid(2), atom("r"))), api.OK)
	expectDown(t, s, api.Mon{Ref: 7}, messageOf(tuple(atom("DOWN"), ref(7), atom("process"), pid(0), atom("r"))), api.OK)
	expectDown(t, s, api.Mon{Ref: 7, Pid: 2, Name: "db"}, messageOf(tuple(atom("DOWN"), ref(7), atom("process"), atom("db"), atom("r"))), api.OK)
}

// Neither the signal's ends nor the half's Ref are in the message; a reason is told as it is, normal and kill too.
func TestP1603Else(t *testing.T) {
	for _, reason := range []string{"normal", "kill", "killed", "noproc"} {
		want := messageOf(tuple(atom("DOWN"), ref(7), atom("process"), pid(2), atom(reason)))
		for _, end := range [][2]int{{2, 1}, {1, 1}, {0, 1}, {5, 9}, {far, far}} {
			for _, n := range []int{7, 0, 8, -1, math.MaxInt, math.MinInt} {
				expectDown(t, downOf(end[0], end[1], 7, atom(reason)), api.Mon{Ref: n, Pid: 2}, want, api.OK)
			}
		}
	}
}

// {'DOWN', Ref, process, What, R} has 8 words more than R, and is one deeper.
func TestP1603Bounds(t *testing.T) {
	for _, m := range []api.Mon{{Ref: 7, Pid: 2}, {Ref: 7, Name: "n"}} {
		what := pid(2)
		if m.Name != "" {
			what = atom("n")
		}
		for _, x := range []api.Term{wide(api.MaxWords - 9), wide(api.MaxWords - 8), deep(api.MaxDepth - 2), deep(api.MaxDepth - 1)} {
			expectDown(t, downOf(2, 1, 7, x), m, messageOf(tuple(atom("DOWN"), ref(7), atom("process"), what, x)), api.OK)
		}
		for _, x := range []api.Term{wide(api.MaxWords - 7), wide(api.MaxWords - 6), wide(api.MaxWords), deep(api.MaxDepth)} {
			expectDown(t, downOf(2, 1, 7, x), m, messageOf(tuple(atom("DOWN"), ref(7), atom("process"), what, atom("system_limit"))), api.OK)
		}
	}
}

func TestP1603WrongHalves(t *testing.T) {
	for _, m := range wrongHalves {
		for _, x := range rights() {
			expectDown(t, downOf(2, 1, 7, x), m, exits.Outcome{}, api.ErrTerm)
		}
	}
}

// What is wrong with the signal is told ahead of what is wrong with the half (P6).
func TestP1603Refused(t *testing.T) {
	for _, m := range []api.Mon{halves[0], halves[5], wrongHalves[0], wrongHalves[4]} {
		for _, kind := range kinds {
			for err, l := range refused(kind) {
				for _, s := range l {
					expectDown(t, s, m, exits.Outcome{}, err)
				}
			}
		}
		for _, s := range others(api.SDown) {
			expectDown(t, s, m, exits.Outcome{}, api.ErrArg)
		}
		for _, n := range []int{0, -7, far + 1} {
			expectDown(t, downOf(2, 1, n, atom("a")), m, exits.Outcome{}, api.ErrArg)
		}
		for _, kind := range []int{0, 9, -8, 1<<32 + api.SDown} {
			s := downOf(2, 1, 7, atom("a"))
			s.Kind = kind
			expectDown(t, s, m, exits.Outcome{}, api.ErrArg)
		}
	}
}

func TestP1603Own(t *testing.T) {
	for _, m := range []api.Mon{halves[0], halves[5]} {
		for _, x := range rights() {
			given := downOf(2, 1, 7, copied(x))
			first, _ := exits.Down(given, m)
			second, _ := exits.Down(given, m)
			want := downMessage(downOf(2, 1, 7, x), m)
			if !alikeTerm(given.Term, x) || !roomStands(given.Term) {
				t.Errorf("P2 Down(%s) changed what it was given", said(x))
			}
			spoilt(given.Term)
			spoilt(second.Term)
			if !alikeOutcome(first, want) {
				t.Errorf("P2 Down(%s): shares memory", said(x))
			}
		}
	}
}
