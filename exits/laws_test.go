package exits_test

import (
	"math/rand"
	"testing"

	"exitwave/api"
	"exitwave/ether"
	"exitwave/exits"
)

// expectTaken holds what was told of what is right against P1606.
func expectTaken(t *testing.T, s api.Signal) {
	t.Helper()
	if e := ether.Check(s); e != api.OK {
		t.Errorf("P1606 told %s: %v", said(s), e)
	}
}

// The signals at the edges of each field, as ether.Check takes them.
func edges() []api.Signal {
	var l []api.Signal
	for _, kind := range kinds {
		for _, from := range []int{0, 1, 2, far} {
			for _, to := range []int{1, 2, far} {
				s := plain(kind, from, to)
				l = append(l, s)
				if s.Id > 0 {
					s.Id = 1 << 62
					l = append(l, s)
				}
				if s.Ref > 0 {
					s.Ref = far
					l = append(l, s)
				}
			}
		}
	}
	return l
}

func TestP1606Dead(t *testing.T) {
	told := 0
	for _, s := range edges() {
		if e := ether.Check(s); e != api.OK {
			t.Fatalf("P1101 %s: %v", said(s), e)
		}
		x, is := exits.Dead(s)
		if !is {
			continue
		}
		told++
		expectTaken(t, x)
		expectDead(t, x, api.Signal{})
	}
	if told < 20 {
		t.Errorf("told %d times: too few to tell", told)
	}
}

func TestP1606Ends(t *testing.T) {
	for _, x := range rights() {
		for _, way := range ways {
			s, _ := exits.Emit(way[0], x, api.Half{Pid: way[1], State: api.Linked})
			expectTaken(t, s)
			expectDead(t, s, api.Signal{})
			for _, n := range []int{1, far} {
				s = exits.Tell(way[0], x, api.Mon{Ref: n, Pid: way[1]})
				expectTaken(t, s)
				expectDead(t, s, api.Signal{})
				s, _ = exits.Leave(way[0], api.Mon{Ref: n, Pid: way[1], Name: "n"})
				expectTaken(t, s)
				expectDead(t, s, api.Signal{})
			}
		}
	}
}

// What Reason tells may be sent along by Emit and Tell, and what these tell acts.
func TestP1606Chain(t *testing.T) {
	for _, x := range rights() {
		for _, class := range []int{api.CError, api.CExit, api.CThrow} {
			reason, e := exits.Reason(class, x)
			if e != api.OK {
				t.Fatalf("P1601 Reason(%d, %s): %v", class, said(x), e)
			}
			s, _ := exits.Emit(5, reason, api.Half{Pid: 6, State: api.Linked})
			for _, trap := range []bool{false, true} {
				expectAct(t, s, trap, acted(exitOf(5, 6, true, reason), trap), api.OK)
			}
			s = exits.Tell(5, reason, api.Mon{Ref: 3, Pid: 6})
			m := api.Mon{Ref: 3, Pid: 5}
			expectDown(t, s, m, downMessage(downOf(5, 6, 3, reason), m), api.OK)
		}
	}
}

// someSignal makes one by chance; one in some has a field that may not be.
func someSignal(r *rand.Rand, terms []api.Term) (api.Signal, bool) {
	s := plain(kinds[r.Intn(len(kinds))], r.Intn(3), 1+r.Intn(2))
	if s.Kind == api.SExit {
		s.Link = r.Intn(2) > 0
	}
	if s.Term.Kind != 0 {
		s.Term = terms[r.Intn(len(terms))]
	}
	if s.Ref != 0 {
		s.Ref = 1 + r.Intn(9)
	}
	if r.Intn(10) > 0 {
		return s, true
	}
	s.To = []int{0, -1, far + 1}[r.Intn(3)]
	return s, false
}

// Calls by chance, held against what the chapter says: each stands alone, whatever was called ahead of it (P3).
func TestByChance(t *testing.T) {
	r := rand.New(rand.NewSource(16))
	terms := smalls()
	for range 20000 {
		s, right := someSignal(r, terms)
		trap, m := r.Intn(2) > 0, halves[r.Intn(len(halves))]
		err := api.OK
		if !right {
			err = api.ErrArg
		}
		if s.Kind == api.SExit && right {
			expectAct(t, s, trap, acted(s, trap), api.OK)
		} else {
			expectAct(t, s, trap, exits.Outcome{}, api.ErrArg)
		}
		if s.Kind == api.SDown && right {
			expectDown(t, s, m, downMessage(s, m), err)
		} else {
			expectDown(t, s, m, exits.Outcome{}, api.ErrArg)
		}
		expectDead(t, s, answered(s))
		class, x := r.Intn(5), terms[r.Intn(len(terms))]
		switch class {
		case api.CError, api.CExit:
			expectReason(t, class, x, x, api.OK)
		case api.CThrow:
			expectReason(t, class, x, thrown(x), api.OK)
		default:
			expectReason(t, class, x, api.Term{}, api.ErrArg)
		}
		if t.Failed() {
			return
		}
	}
}
