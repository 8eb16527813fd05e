package links_test

import (
	"testing"

	"exitwave/api"
	"exitwave/links"
)

// Link at each of the three: a SLink is to be sent, but where it is Linked.
func TestP1401Link(t *testing.T) {
	want := map[string]bool{"none": true, "Linked": false, "Unlinking": true}
	for _, s := range standings() {
		expectTable(t, s.table, s.has...)
		expectLink(t, s.table, 10, want[s.name])
		expectTable(t, s.table, with(s.has, linked(10))...)
		expectLink(t, s.table, 10, false)
		expectTable(t, s.table, with(s.has, linked(10))...)
		if t.Failed() {
			t.Fatalf("P1401 Link at %s", s.name)
		}
	}
}

// Unlink at each of the three: an identifier is told where it is Linked alone; where none is told none is used up.
func TestP1401Unlink(t *testing.T) {
	for _, s := range standings() {
		switch s.name {
		case "Linked":
			expectUnlink(t, s.table, 10, 3)
			s.has = with(s.has, unlinking(10, 3))
		default:
			expectUnlink(t, s.table, 10, 0)
		}
		for range 3 {
			expectTable(t, s.table, s.has...)
			expectUnlink(t, s.table, 10, 0)
		}
		expectUnlink(t, s.table, 12, map[string]int{"none": 3, "Linked": 4, "Unlinking": 4}[s.name])
		if t.Failed() {
			t.Fatalf("P1401 Unlink at %s", s.name)
		}
	}
}

// A table without half-links: each call at it, with each pid.
func TestP1401NoneAtAll(t *testing.T) {
	var zero links.Table
	for _, x := range []*links.Table{links.New(), &zero} {
		expectTable(t, x)
		for _, pid := range pids {
			expectUnlink(t, x, pid, 0)
			x.OnUnlink(pid)
			expectAck(t, x, pid, 0, false)
			expectAck(t, x, pid, 1, false)
			expectExit(t, x, pid, false)
			expectPop(t, x, api.Half{})
			expectTable(t, x)
		}
		for _, pid := range pids {
			expectLink(t, x, pid, true)
			expectTable(t, x, linked(pid))
			expectPop(t, x, linked(pid))
			x.OnLink(pid)
			expectTable(t, x, linked(pid))
			expectExit(t, x, pid, true)
			x.Set(pid)
			expectTable(t, x, linked(pid))
			x.OnUnlink(pid)
			expectTable(t, x)
		}
	}
}

// Identifiers are the table's: they go on counting through Unlinks of several pids, whatever became of the earlier ones.
func TestP1401Identifiers(t *testing.T) {
	x := links.New()
	id := 0
	for range 5 {
		for _, pid := range pids {
			expectLink(t, x, pid, true)
			id++
			expectUnlink(t, x, pid, id)
			expectUnlink(t, x, pid, 0)
			expectGet(t, x, pid, unlinking(pid, id))
		}
	}
	for i, pid := range pids {
		expectAck(t, x, pid, id-len(pids)+i+1, true)
	}
	expectTable(t, x)
	x.Set(5)
	x.Pop()
	x.OnLink(5)
	expectUnlink(t, x, 5, id+1)
	x.Pop()
	x.Set(6)
	expectUnlink(t, x, 6, id+2)
	expectTable(t, x, unlinking(6, id+2))
}

// Each table counts for itself.
func TestP1401Apart(t *testing.T) {
	x, y := links.New(), links.New()
	for n := 1; n <= 4; n++ {
		x.Link(7)
		expectUnlink(t, x, 7, n)
	}
	y.Link(7)
	expectTable(t, x, unlinking(7, 4))
	expectUnlink(t, y, 7, 1)
	expectTable(t, y, unlinking(7, 1))
	expectAck(t, x, 7, 1, false)
	expectAck(t, y, 7, 4, false)
	expectAck(t, x, 7, 4, true)
	expectTable(t, y, unlinking(7, 1))
}

// Link while Unlinking, and Unlink again behind it: by a new identifier, and from Linked with Id 0.
func TestP1401Again(t *testing.T) {
	x := links.New()
	expectLink(t, x, 4, true)
	for id := 1; id <= 100; id++ {
		expectUnlink(t, x, 4, id)
		expectTable(t, x, unlinking(4, id))
		expectLink(t, x, 4, true)
		expectTable(t, x, linked(4))
	}
}
