package links_test

import (
	"math/rand"
	"runtime"
	"slices"
	"testing"

	"exitwave/api"
	"exitwave/links"
)

// step does one call by chance at a table and at a book, and holds what they answer against each other.
func step(t *testing.T, r *rand.Rand, x *links.Table, b *book, pid int) {
	t.Helper()
	switch r.Intn(10) {
	case 0, 1:
		expectLink(t, x, pid, b.link(pid))
	case 2, 3:
		want, _ := b.unlink(pid)
		expectUnlink(t, x, pid, want)
	case 4:
		b.onLink(pid)
		x.OnLink(pid)
	case 5:
		b.onExit(pid) // the same is said of both signals
		x.OnUnlink(pid)
	case 6, 7:
		id := b.has[pid].Id
		if r.Intn(3) == 0 {
			id = r.Intn(b.ids + 2)
		}
		expectAck(t, x, pid, id, b.onAck(pid, id))
	case 8:
		expectExit(t, x, pid, b.onExit(pid))
	default:
		stepTable(t, r, x, b, pid)
	}
}

func stepTable(t *testing.T, r *rand.Rand, x *links.Table, b *book, pid int) {
	t.Helper()
	if r.Intn(2) == 0 {
		b.link(pid)
		x.Set(pid)
		return
	}
	want, _ := b.pop()
	expectPop(t, x, want)
}

// Runs that are made by chance, held against a map behind each step; what All told earlier stays.
func TestP1403ByChance(t *testing.T) {
	r := rand.New(rand.NewSource(14))
	for range 300 {
		x, b := links.New(), newBook()
		few := 1 + r.Intn(12)
		told, want := x.All(), b.all()
		for range 200 {
			step(t, r, x, b, 1+r.Intn(few))
			expectTable(t, x, b.all()...)
			if r.Intn(20) == 0 {
				told, want = x.All(), b.all()
			}
			if t.Failed() {
				return
			}
		}
		if !slices.Equal(told, want) {
			t.Fatalf("P2: what All told changed later: %v; want %v", told, want)
		}
	}
}

// Many half-links: if each call cost as much as there are half-links, this would not end for hours.
func TestP1403Many(t *testing.T) {
	const many = 1 << 17
	x := links.New()
	for pid := 1; pid <= many; pid++ {
		expectLink(t, x, pid, true)
	}
	for pid := many; pid > 0; pid-- {
		expectUnlink(t, x, pid, many-pid+1)
		x.OnLink(pid)
		expectExit(t, x, pid, false)
	}
	for pid := 2; pid <= many; pid += 2 {
		expectAck(t, x, pid, many-pid+1, true)
	}
	for pid := 1; pid <= many; pid += 2 {
		expectPop(t, x, unlinking(pid, many-pid+1))
	}
	expectTable(t, x)
}

// What is gone is not kept, however much there was (rule 8 of the language).
func TestP1403NotKept(t *testing.T) {
	before := inUse()
	x := links.New()
	for pid := 1; pid <= 1<<17; pid++ {
		x.Link(pid)
		x.Unlink(pid)
		x.Link(pid)
	}
	for x.Len() > 0 {
		x.Pop()
	}
	if more := inUse() - before; more > 1<<19 {
		t.Errorf("a table without half-links keeps %d bytes", more)
	}
	runtime.KeepAlive(x)
}

func inUse() int64 {
	var m runtime.MemStats
	runtime.GC()
	runtime.GC()
	runtime.ReadMemStats(&m)
	return int64(m.HeapAlloc)
}

// The same calls in the same order answer the same (P3); of two tables only what their calls answer counts (P7).
func TestP1403Again(t *testing.T) {
	run := func() []api.Half {
		r := rand.New(rand.NewSource(3))
		x := links.New()
		var l []api.Half
		for range 2000 {
			pid := 1 + r.Intn(30)
			x.Link(pid)
			x.OnUnlink(1 + r.Intn(30))
			id, _ := x.Unlink(1 + r.Intn(30))
			x.OnAck(1+r.Intn(30), r.Intn(id+1))
			l = append(append(l, x.All()...), api.Half{Id: id})
		}
		return l
	}
	first := run()
	for range 5 {
		if !slices.Equal(run(), first) {
			t.Fatalf("P3: another answer")
		}
	}
}

// Pids that no process has: every call ends, and no half-link with a right one is touched (P1, P8).
func TestP1401Strange(t *testing.T) {
	for _, s := range standings() {
		for _, pid := range strange {
			s.table.Link(pid)
			s.table.Link(pid)
			id, _ := s.table.Unlink(pid)
			s.table.OnLink(pid)
			s.table.OnUnlink(pid)
			s.table.OnExit(pid)
			s.table.OnAck(pid, id)
			s.table.OnAck(pid, pid)
			s.table.Set(pid)
			s.table.Get(pid)
			s.table.Unlink(pid)
			for _, h := range s.has {
				expectGet(t, s.table, h.Pid, h)
			}
		}
		right := slices.DeleteFunc(s.table.All(), func(h api.Half) bool { return h.Pid < 1 })
		if !slices.Equal(right, s.has) {
			t.Errorf("P1403 All: %v; want %v", right, s.has)
		}
		for range len(strange) + len(s.has) + 1 {
			s.table.Pop()
		}
		expectTable(t, s.table)
	}
}
