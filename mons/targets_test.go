package mons_test

import (
	"slices"
	"testing"

	"exitwave/api"
	"exitwave/mons"
)

// OnMonitor where 10 stands in each of the four ways: refused where it is a target, whether it is an origin or not; what it was refused with changes nothing (P5).
func TestP1502OnMonitor(t *testing.T) {
	for _, s := range standings(t) {
		want := api.OK
		if s.isTarget {
			want = api.ErrArg
		}
		s.has.onMonitor(target(10, 3))
		expectMonitor(t, s.table, target(10, 3), want)
		expectTable(t, s.table, s.has)
		for _, pid := range []int{3, 7, 1, 2} {
			expectMonitor(t, s.table, target(10, pid), api.ErrArg)
			expectTable(t, s.table, s.has)
		}
		s.stopAt(t)
	}
}

// Each reference and each origin from 1 on: they are kept as they are, with no name.
func TestP1502Kept(t *testing.T) {
	for _, pid := range serials {
		x, b := mons.New(), newBook()
		for _, ref := range serials {
			b.onMonitor(target(ref, pid))
			expectMonitor(t, x, target(ref, pid), api.OK)
			expectTable(t, x, b)
		}
		for _, ref := range serials {
			strike(b.targets, ref)
			expectOnDemonitor(t, x, ref, true)
			expectOnDemonitor(t, x, ref, false)
			expectTable(t, x, b)
		}
		if t.Failed() {
			t.Fatalf("P1502 of %d", pid)
		}
	}
}

// References below 1, origins below 1, and both: refused, however 10 stands; nothing is changed.
func TestP1502Refused(t *testing.T) {
	wrong := slices.Concat(below, []int{0})
	for _, s := range standings(t) {
		for _, bad := range wrong {
			for _, n := range slices.Concat(wrong, serials, []int{8, 9, 10, 11, 13}) {
				expectMonitor(t, s.table, target(bad, n), api.ErrArg)
				expectMonitor(t, s.table, target(n, bad), api.ErrArg)
			}
			expectOnDemonitor(t, s.table, bad, false)
			expectTable(t, s.table, s.has)
		}
		s.stopAt(t)
	}
}

// OnDemonitor where 10 stands in each of the four ways, and OnMonitor again behind it; no origin is touched.
func TestP1502OnDemonitor(t *testing.T) {
	for _, s := range standings(t) {
		strike(s.has.targets, 10)
		expectOnDemonitor(t, s.table, 10, s.isTarget)
		expectTable(t, s.table, s.has)
		for _, pid := range []int{7, 1, 2, 1 << 40} {
			expectOnDemonitor(t, s.table, 10, false)
			s.has.onMonitor(target(10, pid))
			expectMonitor(t, s.table, target(10, pid), api.OK)
			expectMonitor(t, s.table, target(10, pid), api.ErrArg)
			expectTable(t, s.table, s.has)
			strike(s.has.targets, 10)
			expectOnDemonitor(t, s.table, 10, true)
			expectTable(t, s.table, s.has)
		}
		s.stopAt(t)
	}
}

// A reference that is an origin alone is no target; one that never was is none either.
func TestP1502NotThere(t *testing.T) {
	for _, s := range standings(t) {
		for _, ref := range []int{1, 7, 8, 12, 14, 1 << 32, 1<<32 + 11, 1 << 40} {
			expectOnDemonitor(t, s.table, ref, false)
			expectTable(t, s.table, s.has)
		}
		s.stopAt(t)
	}
}

// A table without halves: each call at it, with each reference.
func TestP1502NoneAtAll(t *testing.T) {
	for _, x := range tables() {
		b := newBook()
		for _, ref := range slices.Concat(serials, below, []int{0}) {
			expectOnDemonitor(t, x, ref, false)
			expectTable(t, x, b)
		}
		for _, ref := range serials {
			expectMonitor(t, x, target(ref, 1), api.OK)
			expectOnDemonitor(t, x, ref, true)
			expectTable(t, x, b)
		}
	}
}

// One reference as an origin and as a target: each comes and goes without the other, in each order.
func TestP1502Both(t *testing.T) {
	for _, ref := range serials {
		for order := range 4 {
			x, b := mons.New(), newBook()
			o, g := origin(ref, 2, "o"), target(ref, 3)
			if order&1 == 0 {
				expectWatch(t, x, o, b.watch(o))
				expectMonitor(t, x, g, b.onMonitor(g))
			} else {
				expectMonitor(t, x, g, b.onMonitor(g))
				expectWatch(t, x, o, b.watch(o))
			}
			expectTable(t, x, b)
			if order&2 == 0 {
				expectDown(t, x, ref, strike(b.origins, ref))
				expectTable(t, x, b)
				expectPopTarget(t, x, strikeLeast(b.targets))
			} else {
				expectOnDemonitor(t, x, ref, true)
				strike(b.targets, ref)
				expectTable(t, x, b)
				expectPopOrigin(t, x, strikeLeast(b.origins))
			}
			expectTable(t, x, b)
		}
	}
}
