package links_test

import (
	"math"
	"testing"

	"exitwave/links"
)

// OnLink at each of the three: where there is a half-link it stays as it is.
func TestP1402OnLink(t *testing.T) {
	for _, s := range standings() {
		if s.name == "none" {
			s.has = with(s.has, linked(10))
		}
		for range 2 {
			s.table.OnLink(10)
			expectTable(t, s.table, s.has...)
		}
		if t.Failed() {
			t.Fatalf("P1402 OnLink at %s", s.name)
		}
	}
}

// OnUnlink at each of the three: one that is Linked goes.
func TestP1402OnUnlink(t *testing.T) {
	for _, s := range standings() {
		if s.name == "Linked" {
			s.has = without(s.has, 10)
		}
		for range 2 {
			s.table.OnUnlink(10)
			expectTable(t, s.table, s.has...)
		}
		if t.Failed() {
			t.Fatalf("P1402 OnUnlink at %s", s.name)
		}
	}
}

// OnExit at each of the three: one that is Linked goes, and that is told.
func TestP1402OnExit(t *testing.T) {
	for _, s := range standings() {
		is := s.name == "Linked"
		if is {
			s.has = without(s.has, 10)
		}
		expectExit(t, s.table, 10, is)
		expectTable(t, s.table, s.has...)
		expectExit(t, s.table, 10, false)
		expectTable(t, s.table, s.has...)
		if t.Failed() {
			t.Fatalf("P1402 OnExit at %s", s.name)
		}
	}
}

// OnAck at each of the three, by every other identifier first: one that is Unlinking by just that one goes, and that is told.
func TestP1402OnAck(t *testing.T) {
	for _, s := range standings() {
		for _, id := range []int{0, 1, 2, 4, 5, -1, -3, 1 << 32, 1<<32 + 3, math.MaxInt, math.MinInt} {
			expectAck(t, s.table, 10, id, false)
			expectTable(t, s.table, s.has...)
		}
		is := s.name == "Unlinking"
		if is {
			s.has = without(s.has, 10)
		}
		expectAck(t, s.table, 10, 3, is)
		expectTable(t, s.table, s.has...)
		expectAck(t, s.table, 10, 3, false)
		expectTable(t, s.table, s.has...)
		if t.Failed() {
			t.Fatalf("P1402 OnAck at %s", s.name)
		}
	}
}

// OnAck with another pid's identifier: neither half-link goes.
func TestP1402OtherPid(t *testing.T) {
	x := links.New()
	for id, pid := range pids {
		x.Link(pid)
		expectUnlink(t, x, pid, id+1)
	}
	for id, pid := range pids {
		for other := range pids {
			if other != id {
				expectAck(t, x, pid, other+1, false)
			}
		}
		expectGet(t, x, pid, unlinking(pid, id+1))
	}
	for id, pid := range pids {
		expectAck(t, x, pid, id+1, true)
		expectNone(t, x, pid)
		if x.Len() != len(pids)-id-1 {
			t.Errorf("P1403 Len: %d; want %d", x.Len(), len(pids)-id-1)
		}
	}
}

// OnAck behind a new Link removes nothing: neither with the elder identifier, nor with 0, which a Linked one has (T4).
func TestP1402BehindLink(t *testing.T) {
	for name, again := range map[string]func(x *links.Table){
		"Link": func(x *links.Table) { x.Link(2) },
		"Set":  func(x *links.Table) { x.Set(2) },
	} {
		x := links.New()
		x.Link(2)
		expectUnlink(t, x, 2, 1)
		again(x)
		for id := range 4 {
			expectAck(t, x, 2, id, false)
			expectTable(t, x, linked(2))
		}
		expectUnlink(t, x, 2, 2)
		expectAck(t, x, 2, 1, false)
		expectTable(t, x, unlinking(2, 2))
		expectAck(t, x, 2, 2, true)
		expectTable(t, x)
		x.OnLink(2)
		for id := range 4 {
			expectAck(t, x, 2, id, false)
			expectTable(t, x, linked(2))
		}
		if t.Failed() {
			t.Fatalf("behind %s", name)
		}
	}
}

// Signals of one process touch no half-link with another one.
func TestP1402Apart(t *testing.T) {
	for _, s := range standings() {
		for _, pid := range []int{1, 7, 13, 1 << 40} {
			s.table.OnUnlink(pid)
			expectExit(t, s.table, pid, false)
			for id := range 5 {
				expectAck(t, s.table, pid, id, false)
			}
			expectTable(t, s.table, s.has...)
			s.table.OnLink(pid)
			expectTable(t, s.table, with(s.has, linked(pid))...)
			s.table.OnUnlink(pid)
			expectTable(t, s.table, s.has...)
			s.table.OnLink(pid)
			expectExit(t, s.table, pid, true)
			expectTable(t, s.table, s.has...)
		}
	}
}
