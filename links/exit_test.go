package links_test

import (
	"math/rand"
	"testing"

	"exitwave/links"
)

// quiet does one thing that is no Link of pid: a signal of it, another Unlink of it, or anything with another one. Where there is no half-link with pid, a SLink would be a new link of the other one's making (T3), and is left out.
func quiet(t *testing.T, r *rand.Rand, x *links.Table, pid, id int) {
	t.Helper()
	other := pid + 1 + r.Intn(3)
	switch r.Intn(9) {
	case 0:
		if _, is := x.Get(pid); is {
			x.OnLink(pid)
		}
	case 1:
		x.OnUnlink(pid)
	case 2:
		x.OnAck(pid, r.Intn(id+2))
	case 3:
		expectUnlink(t, x, pid, 0)
	case 4:
		x.Link(other)
	case 5:
		x.OnLink(other)
	case 6:
		x.OnExit(other)
	case 7:
		x.Unlink(other)
	default:
		x.Set(other)
	}
}

// From Unlink to the next Link of a pid OnExit of it is false, whatever comes in between; behind that Link it is true, once.
func TestP1405ByChance(t *testing.T) {
	r := rand.New(rand.NewSource(1405))
	for range 400 {
		x := links.New()
		for range 10 {
			x.Link(1)
			id, is := x.Unlink(1)
			if !is {
				t.Fatalf("P1401 Unlink(1) behind Link(1): %d, false", id)
			}
			for range r.Intn(20) {
				expectExit(t, x, 1, false)
				quiet(t, r, x, 1, id)
			}
			expectExit(t, x, 1, false)
			expectLink(t, x, 1, true)
			expectExit(t, x, 1, true)
			expectExit(t, x, 1, false)
			if t.Failed() {
				return
			}
		}
	}
}

// Each of the three ways in which a half-link stands, and Unlink: OnExit is false from then on; it leaves all as it is.
func TestP1405Unlink(t *testing.T) {
	for _, s := range standings() {
		s.table.Unlink(10)
		has := s.table.All()
		for range 3 {
			expectExit(t, s.table, 10, false)
			expectTable(t, s.table, has...)
		}
		expectAck(t, s.table, 10, 3, s.name != "none")
		expectExit(t, s.table, 10, false)
		expectLink(t, s.table, 10, true)
		expectExit(t, s.table, 10, true)
		if t.Failed() {
			t.Fatalf("P1405 at %s", s.name)
		}
	}
}

// A SLink that comes while it is Unlinking does not link again; one that comes when there is no half-link does (T3).
func TestP1405OnLink(t *testing.T) {
	x := links.New()
	x.Link(2)
	expectUnlink(t, x, 2, 1)
	x.OnLink(2)
	expectExit(t, x, 2, false)
	expectTable(t, x, unlinking(2, 1))
	expectAck(t, x, 2, 1, true)
	expectExit(t, x, 2, false)
	x.OnLink(2)
	expectExit(t, x, 2, true)
}

// An exit of one that was unlinked does not end the Unlinking: its acknowledgement still comes, and still removes it.
func TestP1405ThenAck(t *testing.T) {
	x := links.New()
	x.OnLink(2)
	expectUnlink(t, x, 2, 1)
	expectExit(t, x, 2, false)
	expectAck(t, x, 2, 1, true)
	expectTable(t, x)
}
