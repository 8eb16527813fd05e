package exits_test

import (
	"testing"

	"exitwave/api"
	"exitwave/exits"
)

func TestExample1(t *testing.T) {
	expectAct(t, exitOf(3, 1, false, atom("kill")), true, endsWith(atom("killed")), api.OK)
	expectAct(t, exitOf(3, 1, true, atom("kill")), true, messageOf(tuple(atom("EXIT"), pid(3), atom("kill"))), api.OK)
	expectAct(t, exitOf(3, 1, true, atom("kill")), false, endsWith(atom("kill")), api.OK)
}

func TestExample2(t *testing.T) {
	expectDead(t, api.Signal{From: 1, To: 7, Kind: api.SLink}, exitOf(7, 1, true, atom("noproc")))
	expectDead(t, downOf(1, 7, 4, atom("a")), api.Signal{})
}

// The numbers of outcomes are the face's.
func TestKinds(t *testing.T) {
	if exits.Nothing != 0 || exits.Message != 1 || exits.Ends != 2 {
		t.Errorf("kinds: %d, %d, %d", exits.Nothing, exits.Message, exits.Ends)
	}
}
