package mons_test

import (
	"math/rand"
	"slices"
	"testing"

	"exitwave/api"
	"exitwave/mons"
)

// Origins and Targets tell by Ref, whatever order halves came in.
func TestP1503ByRef(t *testing.T) {
	r := rand.New(rand.NewSource(1503))
	for n := range 60 {
		x, b := mons.New(), newBook()
		for _, i := range r.Perm(n) {
			m := origin(1+i*i, r.Intn(n), texts[r.Intn(len(texts))])
			expectWatch(t, x, m, b.watch(m))
			expectTable(t, x, b)
		}
		for _, i := range r.Perm(n) {
			m := target(1+i*i, 1+r.Intn(n))
			expectMonitor(t, x, m, b.onMonitor(m))
			expectTable(t, x, b)
		}
		if t.Failed() {
			return
		}
	}
}

// filled is a table of n origins and n + 1 targets.
func filled(n int) (*mons.Table, *book) {
	x, b := mons.New(), newBook()
	for ref := 1; ref <= n+1; ref++ {
		x.OnMonitor(ref, ref+1)
		b.onMonitor(target(ref, ref+1))
		if ref <= n {
			x.Watch(ref, ref-1, "o")
			b.watch(origin(ref, ref-1, "o"))
		}
	}
	return x, b
}

// What Origins and Targets tell is the caller's own, its spare room too (P2).
func TestP1503Own(t *testing.T) {
	for n := range 20 {
		x, b := filled(n)
		origins, targets := x.Origins(), x.Targets()
		spoil(x.Origins())
		spoil(x.Targets())
		expectTable(t, x, b)
		if !slices.Equal(origins, byRef(b.origins)) || !slices.Equal(targets, byRef(b.targets)) {
			t.Errorf("P2: two answers share memory: %v, %v", origins, targets)
		}
	}
}

// What Origins and Targets told stays as it was, whatever comes and goes later.
func TestP1503Stays(t *testing.T) {
	for n := range 20 {
		x, b := filled(n)
		origins, targets := x.Origins(), x.Targets()
		for ref := 1; ref <= n+1; ref++ {
			x.OnDown(ref)
			x.Watch(ref, 99, "later")
			x.OnDemonitor(ref)
			x.OnMonitor(ref, 99)
		}
		x.PopOrigin()
		x.PopTarget()
		x.Watch(n+5, 99, "later")
		x.OnMonitor(n+5, 99)
		if !slices.Equal(origins, byRef(b.origins)) || !slices.Equal(targets, byRef(b.targets)) {
			t.Errorf("P2: what was told changed later: %v, %v", origins, targets)
		}
	}
}

// spoil writes over a list, its spare room too.
func spoil(l []api.Mon) {
	l = l[:cap(l)]
	for i := range l {
		l[i] = origin(666, 666, "spoilt")
	}
}

// PopOrigin takes the origin with the least Ref till none is left, and PopTarget the target; then they tell none. Neither touches the other kind.
func TestP1503Pop(t *testing.T) {
	r := rand.New(rand.NewSource(1504))
	for range 50 {
		x, b := mons.New(), newBook()
		for range 30 {
			o, g := origin(1+r.Intn(40), r.Intn(5), texts[r.Intn(len(texts))]), target(1+r.Intn(40), 1+r.Intn(5))
			expectWatch(t, x, o, b.watch(o))
			expectMonitor(t, x, g, b.onMonitor(g))
		}
		for range 70 {
			if r.Intn(2) == 0 {
				expectPopOrigin(t, x, strikeLeast(b.origins))
			} else {
				expectPopTarget(t, x, strikeLeast(b.targets))
			}
			expectTable(t, x, b)
		}
		if t.Failed() {
			return
		}
	}
}

// A table without halves, and one with those of the other kind alone: a pop tells none, and changes nothing.
func TestP1503PopNone(t *testing.T) {
	for _, x := range tables() {
		b := newBook()
		for range 2 {
			expectPopOrigin(t, x, api.Mon{})
			expectPopTarget(t, x, api.Mon{})
			expectTable(t, x, b)
		}
		for _, ref := range serials {
			expectWatch(t, x, origin(ref, 0, ""), b.watch(origin(ref, 0, "")))
			expectPopTarget(t, x, api.Mon{})
			expectTable(t, x, b)
			expectPopOrigin(t, x, strikeLeast(b.origins))
			expectMonitor(t, x, target(ref, 1), b.onMonitor(target(ref, 1)))
			expectPopOrigin(t, x, api.Mon{})
			expectTable(t, x, b)
			expectPopTarget(t, x, strikeLeast(b.targets))
			expectTable(t, x, b)
		}
	}
}

// What was popped is there no more, and may come anew: a pop behind that takes the least of then.
func TestP1503PopAnew(t *testing.T) {
	x, b := mons.New(), newBook()
	expectWatch(t, x, origin(5, 1, "a"), api.OK)
	expectWatch(t, x, origin(9, 1, "b"), api.OK)
	expectMonitor(t, x, target(6, 2), api.OK)
	expectMonitor(t, x, target(4, 3), api.OK)
	expectPopOrigin(t, x, origin(5, 1, "a"))
	expectDown(t, x, 5, api.Mon{})
	expectDemonitor(t, x, 5, api.Mon{})
	expectPopTarget(t, x, target(4, 3))
	expectOnDemonitor(t, x, 4, false)
	expectWatch(t, x, origin(3, 0, "c"), api.OK)
	expectWatch(t, x, origin(5, 2, "d"), api.OK)
	expectMonitor(t, x, target(4, 1), api.OK)
	expectPopOrigin(t, x, origin(3, 0, "c"))
	expectPopOrigin(t, x, origin(5, 2, "d"))
	expectPopOrigin(t, x, origin(9, 1, "b"))
	expectPopTarget(t, x, target(4, 1))
	expectPopTarget(t, x, target(6, 2))
	expectTable(t, x, b)
}

// Len behind each call that brings or takes one, and behind those that do not.
func TestP1503Len(t *testing.T) {
	x := mons.New()
	expect := func(what string, origins, targets int) {
		t.Helper()
		if o, g := x.Len(); o != origins || g != targets {
			t.Errorf("P1503 Len behind %s: %d, %d; want %d, %d", what, o, g, origins, targets)
		}
	}
	for _, c := range []struct {
		what             string
		do               func()
		origins, targets int
	}{
		{"New", func() {}, 0, 0},
		{"Watch", func() { x.Watch(1, 2, "") }, 1, 0},
		{"Watch again", func() { x.Watch(1, 3, "a") }, 1, 0},
		{"Watch of reference 0", func() { x.Watch(0, 2, "") }, 1, 0},
		{"Watch of a pid below 0", func() { x.Watch(2, -1, "") }, 1, 0},
		{"Watch of nobody", func() { x.Watch(2, 0, "a") }, 2, 0},
		{"OnMonitor", func() { x.OnMonitor(1, 2) }, 2, 1},
		{"OnMonitor again", func() { x.OnMonitor(1, 3) }, 2, 1},
		{"OnMonitor of reference 0", func() { x.OnMonitor(0, 2) }, 2, 1},
		{"OnMonitor of nobody", func() { x.OnMonitor(3, 0) }, 2, 1},
		{"OnMonitor of another one", func() { x.OnMonitor(3, 2) }, 2, 2},
		{"OnDown", func() { x.OnDown(1) }, 1, 2},
		{"OnDown again", func() { x.OnDown(1) }, 1, 2},
		{"Demonitor behind OnDown", func() { x.Demonitor(1) }, 1, 2},
		{"OnDemonitor", func() { x.OnDemonitor(1) }, 1, 1},
		{"OnDemonitor again", func() { x.OnDemonitor(1) }, 1, 1},
		{"Demonitor", func() { x.Demonitor(2) }, 0, 1},
		{"Demonitor again", func() { x.Demonitor(2) }, 0, 1},
		{"PopOrigin of none", func() { x.PopOrigin() }, 0, 1},
		{"Watch of what was", func() { x.Watch(2, 1, "") }, 1, 1},
		{"PopTarget", func() { x.PopTarget() }, 1, 0},
		{"PopTarget of none", func() { x.PopTarget() }, 1, 0},
		{"PopOrigin", func() { x.PopOrigin() }, 0, 0},
	} {
		c.do()
		expect(c.what, c.origins, c.targets)
	}
}

// Asking changes nothing.
func TestP1503Asked(t *testing.T) {
	for _, s := range standings(t) {
		for range 3 {
			s.table.Origins()
			s.table.Targets()
			s.table.Len()
			expectTable(t, s.table, s.has)
		}
	}
}
