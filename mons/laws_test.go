package mons_test

import (
	"math/rand"
	"runtime"
	"slices"
	"testing"

	"exitwave/api"
	"exitwave/mons"
)

// step does one call by chance at a table and at a book, and holds what they answer against each other.
func step(t *testing.T, r *rand.Rand, x *mons.Table, b *book, ref int) {
	t.Helper()
	switch r.Intn(10) {
	case 0, 1, 2:
		m := origin(ref, r.Intn(6)-1, texts[r.Intn(len(texts))])
		expectWatch(t, x, m, b.watch(m))
	case 3, 4, 5:
		m := target(ref, r.Intn(6))
		expectMonitor(t, x, m, b.onMonitor(m))
	case 6:
		expectDemonitor(t, x, ref, strike(b.origins, ref))
	case 7:
		expectDown(t, x, ref, strike(b.origins, ref))
	case 8:
		expectOnDemonitor(t, x, ref, strike(b.targets, ref) != api.Mon{})
	default:
		if r.Intn(2) == 0 {
			expectPopOrigin(t, x, strikeLeast(b.origins))
		} else {
			expectPopTarget(t, x, strikeLeast(b.targets))
		}
	}
}

// Runs that are made by chance, held against two maps behind each step; what was told earlier stays.
func TestP1503ByChance(t *testing.T) {
	r := rand.New(rand.NewSource(15))
	for range 300 {
		x, b := mons.New(), newBook()
		few := 2 + r.Intn(20)
		origins, targets := x.Origins(), x.Targets()
		wantOrigins, wantTargets := byRef(b.origins), byRef(b.targets)
		for range 200 {
			step(t, r, x, b, r.Intn(few))
			expectTable(t, x, b)
			if r.Intn(20) == 0 {
				origins, targets = x.Origins(), x.Targets()
				wantOrigins, wantTargets = byRef(b.origins), byRef(b.targets)
			}
			if t.Failed() {
				return
			}
		}
		if !slices.Equal(origins, wantOrigins) || !slices.Equal(targets, wantTargets) {
			t.Fatalf("P2: what was told changed later: %v, %v", origins, targets)
		}
	}
}

// Many halves: if each call cost as much as there are halves, this would not end for hours.
func TestP1503Many(t *testing.T) {
	const many = 1 << 17
	x := mons.New()
	for ref := 1; ref <= many; ref++ {
		expectWatch(t, x, origin(ref, ref, "m"), api.OK)
		expectMonitor(t, x, target(many-ref+1, ref), api.OK)
	}
	for ref := 4; ref <= many; ref += 4 {
		expectDown(t, x, ref, origin(ref, ref, "m"))
		expectDemonitor(t, x, ref-1, origin(ref-1, ref-1, "m"))
		expectOnDemonitor(t, x, ref, true)
		expectOnDemonitor(t, x, ref-2, true)
	}
	for ref := 1; ref <= many; ref++ {
		if ref%4 == 1 || ref%4 == 2 {
			expectPopOrigin(t, x, origin(ref, ref, "m"))
		}
		if ref%2 == 1 {
			expectPopTarget(t, x, target(ref, many-ref+1))
		}
	}
	expectTable(t, x, newBook())
}

// What is gone is not kept, however much there was (rule 8 of the language).
func TestP1503NotKept(t *testing.T) {
	before := inUse()
	x := mons.New()
	for ref := 1; ref <= 1<<17; ref++ {
		x.Watch(ref, ref, "kept")
		x.OnMonitor(ref, ref)
	}
	for ref := 1; ref <= 1<<16; ref++ {
		x.OnDown(ref)
		x.OnDemonitor(ref)
	}
	for origins, _ := x.Len(); origins > 0; origins, _ = x.Len() {
		x.PopOrigin()
		x.PopTarget()
	}
	if more := inUse() - before; more > 1<<19 {
		t.Errorf("a table without halves keeps %d bytes", more)
	}
	runtime.KeepAlive(x)
}

// The same calls in the same order answer the same (P3).
func TestP1503Again(t *testing.T) {
	run := func() []api.Mon {
		r := rand.New(rand.NewSource(3))
		x := mons.New()
		var l []api.Mon
		for range 2000 {
			x.Watch(1+r.Intn(30), r.Intn(5), "a")
			x.OnMonitor(1+r.Intn(30), 1+r.Intn(5))
			down, _ := x.OnDown(1 + r.Intn(30))
			left, _ := x.Demonitor(1 + r.Intn(30))
			x.OnDemonitor(1 + r.Intn(30))
			l = append(append(append(l, x.Origins()...), x.Targets()...), down, left)
		}
		return l
	}
	first := run()
	for range 5 {
		if !slices.Equal(run(), first) {
			t.Fatalf("P3: another answer")
		}
	}
}

// Each table is apart from all others (P7).
func TestP1503Apart(t *testing.T) {
	r := rand.New(rand.NewSource(7))
	x, b := make([]*mons.Table, 5), make([]*book, 5)
	for i := range x {
		x[i], b[i] = mons.New(), newBook()
	}
	for range 2000 {
		i := r.Intn(len(x))
		step(t, r, x[i], b[i], r.Intn(12))
		for i := range x {
			expectTable(t, x[i], b[i])
		}
		if t.Failed() {
			return
		}
	}
}
