package mons_test

import (
	"runtime"
	"slices"
	"strings"
	"testing"

	"exitwave/api"
	"exitwave/mons"
)

// Watch where 10 stands in each of the four ways: refused where it is an origin, whether it is a target or not; what it was refused with changes nothing (P5).
func TestP1501Watch(t *testing.T) {
	for _, s := range standings(t) {
		want := api.OK
		if s.isOrigin {
			want = api.ErrArg
		}
		s.has.watch(origin(10, 4, "x"))
		expectWatch(t, s.table, origin(10, 4, "x"), want)
		expectTable(t, s.table, s.has)
		for _, m := range []api.Mon{origin(10, 4, "x"), origin(10, 2, "ten"), origin(10, 0, ""), origin(10, 5, "y")} {
			expectWatch(t, s.table, m, api.ErrArg)
			expectTable(t, s.table, s.has)
		}
		s.stopAt(t)
	}
}

// Each reference from 1 on, each pid from 0 on, each name: they are kept as they are.
func TestP1501Kept(t *testing.T) {
	for _, pid := range slices.Concat([]int{0}, serials) {
		for _, name := range texts {
			x, b := mons.New(), newBook()
			for _, ref := range serials {
				m := origin(ref, pid, name)
				b.watch(m)
				expectWatch(t, x, m, api.OK)
				expectTable(t, x, b)
			}
			for i, ref := range serials {
				m := strike(b.origins, ref)
				if i%2 == 0 {
					expectDown(t, x, ref, m)
				} else {
					expectDemonitor(t, x, ref, m)
				}
				expectTable(t, x, b)
			}
			if t.Failed() {
				t.Fatalf("P1501 of %d by %q", pid, name)
			}
		}
	}
}

// References below 1, pids below 0, and both: refused, however 10 stands; nothing is changed.
func TestP1501Refused(t *testing.T) {
	wrong := slices.Concat(below, []int{0})
	for _, s := range standings(t) {
		for _, name := range texts {
			for _, ref := range wrong {
				for _, pid := range slices.Concat(wrong, serials) {
					expectWatch(t, s.table, origin(ref, pid, name), api.ErrArg)
				}
			}
			for _, pid := range below {
				for _, ref := range slices.Concat(serials, []int{8, 9, 10, 11, 12}) {
					expectWatch(t, s.table, origin(ref, pid, name), api.ErrArg)
				}
			}
			expectTable(t, s.table, s.has)
		}
		for _, ref := range wrong {
			expectDemonitor(t, s.table, ref, api.Mon{})
			expectDown(t, s.table, ref, api.Mon{})
		}
		expectTable(t, s.table, s.has)
		s.stopAt(t)
	}
}

// endings take origin 10 out, if it is one, and ask for it once more.
func endings() map[string]func(t *testing.T, x *mons.Table, want api.Mon) {
	return map[string]func(t *testing.T, x *mons.Table, want api.Mon){
		"Demonitor": func(t *testing.T, x *mons.Table, want api.Mon) {
			expectDemonitor(t, x, 10, want)
			expectDemonitor(t, x, 10, api.Mon{})
		},
		"OnDown": func(t *testing.T, x *mons.Table, want api.Mon) {
			expectDown(t, x, 10, want)
			expectDown(t, x, 10, api.Mon{})
		},
		"Demonitor ahead of OnDown": func(t *testing.T, x *mons.Table, want api.Mon) {
			expectDemonitor(t, x, 10, want)
			expectDown(t, x, 10, api.Mon{})
		},
		"OnDown ahead of Demonitor": func(t *testing.T, x *mons.Table, want api.Mon) {
			expectDown(t, x, 10, want)
			expectDemonitor(t, x, 10, api.Mon{})
		},
	}
}

// Demonitor and OnDown where 10 stands in each of the four ways, and Watch again behind them: what is told is the origin of then, and no target is touched.
func TestP1501Endings(t *testing.T) {
	for name, end := range endings() {
		for _, s := range standings(t) {
			end(t, s.table, strike(s.has.origins, 10))
			expectTable(t, s.table, s.has)
			for _, again := range []api.Mon{origin(10, 3, "again"), origin(10, 0, "n"), origin(10, 2, ""), origin(10, 0, "")} {
				s.has.watch(again)
				expectWatch(t, s.table, again, api.OK)
				expectWatch(t, s.table, again, api.ErrArg)
				expectTable(t, s.table, s.has)
				end(t, s.table, strike(s.has.origins, 10))
				expectTable(t, s.table, s.has)
			}
			if t.Failed() {
				t.Fatalf("%s where 10 is %s", name, s.name)
			}
		}
	}
}

// A reference that is a target alone is no origin; one that never was is none either.
func TestP1501NotThere(t *testing.T) {
	for _, s := range standings(t) {
		for _, ref := range []int{1, 7, 9, 13, 14, 1 << 32, 1<<32 + 11, 1 << 40} {
			expectDemonitor(t, s.table, ref, api.Mon{})
			expectDown(t, s.table, ref, api.Mon{})
			expectTable(t, s.table, s.has)
		}
		s.stopAt(t)
	}
}

// A table without halves: each call at it, with each reference.
func TestP1501NoneAtAll(t *testing.T) {
	for _, x := range tables() {
		b := newBook()
		for _, ref := range slices.Concat(serials, below, []int{0}) {
			expectDemonitor(t, x, ref, api.Mon{})
			expectDown(t, x, ref, api.Mon{})
			expectTable(t, x, b)
		}
		for _, ref := range serials {
			expectWatch(t, x, origin(ref, 1, "a"), api.OK)
			expectDown(t, x, ref, origin(ref, 1, "a"))
			expectWatch(t, x, origin(ref, 0, ""), api.OK)
			expectDemonitor(t, x, ref, origin(ref, 0, ""))
			expectTable(t, x, b)
		}
	}
}

// A name may be a small piece of a great text, which is not kept (P2).
func TestP1501NameOwn(t *testing.T) {
	x, b := mons.New(), newBook()
	before := inUse()
	for ref := 1; ref <= 64; ref++ {
		text := strings.Repeat("name", 1<<18)
		expectWatch(t, x, origin(ref, 1, text[:ref]), api.OK)
		b.watch(origin(ref, 1, strings.Repeat("name", 16)[:ref]))
	}
	if more := inUse() - before; more > 1<<20 {
		t.Errorf("P2: names of 64 bytes at most keep %d bytes", more)
	}
	expectTable(t, x, b)
}

func inUse() int64 {
	var m runtime.MemStats
	runtime.GC()
	runtime.GC()
	runtime.ReadMemStats(&m)
	return int64(m.HeapAlloc)
}
