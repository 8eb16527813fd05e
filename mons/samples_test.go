package mons_test

import (
	"maps"
	"math"
	"slices"
	"strings"
	"testing"

	"exitwave/api"
	"exitwave/mons"
)

// serials are references, or pids: the first ones, some in the midst, and the last ones that an int can be.
var serials = []int{1, 2, 3, 7, 1 << 10, 1 << 16, 1 << 32, 1<<32 + 1, 1 << 40, math.MaxInt - 1, math.MaxInt}

// below are those that lie below 0.
var below = []int{-1, -2, -10, -1 << 32, -1 << 40, math.MinInt + 1, math.MinInt}

// texts are names: none, and some, which may be any.
var texts = []string{"", "a", "b", " ", "\x00", "\xff\xfe", "'DOWN'", strings.Repeat("n", api.MaxAtom), strings.Repeat("n", 10*api.MaxAtom)}

func origin(ref, pid int, name string) api.Mon { return api.Mon{Ref: ref, Pid: pid, Name: name} }

func target(ref, pid int) api.Mon { return api.Mon{Ref: ref, Pid: pid} }

// book says chapter 15 once more, by two maps.
type book struct {
	origins, targets map[int]api.Mon
}

func newBook() *book { return &book{map[int]api.Mon{}, map[int]api.Mon{}} }

func (b *book) watch(m api.Mon) api.Errno {
	if m.Ref < 1 || m.Pid < 0 {
		return api.ErrArg
	}
	return enter(b.origins, m)
}

func (b *book) onMonitor(m api.Mon) api.Errno {
	if m.Ref < 1 || m.Pid < 1 {
		return api.ErrArg
	}
	return enter(b.targets, m)
}

func enter(has map[int]api.Mon, m api.Mon) api.Errno {
	if _, is := has[m.Ref]; is {
		return api.ErrArg
	}
	has[m.Ref] = m
	return api.OK
}

// strike takes out what ref has: a zero half, if it has none.
func strike(has map[int]api.Mon, ref int) api.Mon {
	m := has[ref]
	delete(has, ref)
	return m
}

func strikeLeast(has map[int]api.Mon) api.Mon {
	if len(has) == 0 {
		return api.Mon{}
	}
	return strike(has, slices.Min(slices.Collect(maps.Keys(has))))
}

func byRef(has map[int]api.Mon) []api.Mon {
	var l []api.Mon
	for _, ref := range slices.Sorted(maps.Keys(has)) {
		l = append(l, has[ref])
	}
	return l
}

// expectTable holds all that a table tells, without being changed, against the halves that it must have.
func expectTable(t *testing.T, x *mons.Table, b *book) {
	t.Helper()
	if origins, targets := x.Len(); origins != len(b.origins) || targets != len(b.targets) {
		t.Errorf("P1503 Len: %d, %d; want %d, %d", origins, targets, len(b.origins), len(b.targets))
	}
	if l, want := x.Origins(), byRef(b.origins); !slices.Equal(l, want) {
		t.Errorf("P1503 Origins: %v; want %v", l, want)
	}
	if l, want := x.Targets(), byRef(b.targets); !slices.Equal(l, want) {
		t.Errorf("P1503 Targets: %v; want %v", l, want)
	}
}

func expectWatch(t *testing.T, x *mons.Table, m api.Mon, want api.Errno) {
	t.Helper()
	if e := x.Watch(m.Ref, m.Pid, m.Name); e != want {
		t.Errorf("P1501 Watch(%d, %d, %q): %v; want %v", m.Ref, m.Pid, m.Name, e, want)
	}
}

// expectDemonitor, expectDown want an origin, or a zero one, where there is none.
func expectDemonitor(t *testing.T, x *mons.Table, ref int, want api.Mon) {
	t.Helper()
	if m, is := x.Demonitor(ref); m != want || is != (want != api.Mon{}) {
		t.Errorf("P1501 Demonitor(%d): %v, %v; want %v", ref, m, is, want)
	}
}

func expectDown(t *testing.T, x *mons.Table, ref int, want api.Mon) {
	t.Helper()
	if m, is := x.OnDown(ref); m != want || is != (want != api.Mon{}) {
		t.Errorf("P1501 OnDown(%d): %v, %v; want %v", ref, m, is, want)
	}
}

func expectMonitor(t *testing.T, x *mons.Table, m api.Mon, want api.Errno) {
	t.Helper()
	if e := x.OnMonitor(m.Ref, m.Pid); e != want {
		t.Errorf("P1502 OnMonitor(%d, %d): %v; want %v", m.Ref, m.Pid, e, want)
	}
}

func expectOnDemonitor(t *testing.T, x *mons.Table, ref int, want bool) {
	t.Helper()
	if is := x.OnDemonitor(ref); is != want {
		t.Errorf("P1502 OnDemonitor(%d): %v; want %v", ref, is, want)
	}
}

// expectPopOrigin, expectPopTarget want a half, or a zero one, where there is none.
func expectPopOrigin(t *testing.T, x *mons.Table, want api.Mon) {
	t.Helper()
	if m, is := x.PopOrigin(); m != want || is != (want != api.Mon{}) {
		t.Errorf("P1503 PopOrigin: %v, %v; want %v", m, is, want)
	}
}

func expectPopTarget(t *testing.T, x *mons.Table, want api.Mon) {
	t.Helper()
	if m, is := x.PopTarget(); m != want || is != (want != api.Mon{}) {
		t.Errorf("P1503 PopTarget: %v, %v; want %v", m, is, want)
	}
}

// standing is a table, and what it has: how reference 10 stands in it, and others around that.
type standing struct {
	name               string
	isOrigin, isTarget bool
	table              *mons.Table
	has                *book
}

// standings are the four ways in which reference 10 may stand.
func standings(t *testing.T) []standing {
	t.Helper()
	var l []standing
	for _, s := range []standing{{name: "none"}, {name: "an origin", isOrigin: true}, {name: "a target", isTarget: true}, {name: "both", isOrigin: true, isTarget: true}} {
		s.table, s.has = mons.New(), newBook()
		for _, m := range []api.Mon{origin(12, 3, "m"), origin(8, 0, "nobody"), origin(11, 5, "")} {
			expectWatch(t, s.table, m, s.has.watch(m))
		}
		for _, m := range []api.Mon{target(11, 6), target(13, 4), target(9, 4)} {
			expectMonitor(t, s.table, m, s.has.onMonitor(m))
		}
		if m := origin(10, 2, "ten"); s.isOrigin {
			expectWatch(t, s.table, m, s.has.watch(m))
		}
		if m := target(10, 7); s.isTarget {
			expectMonitor(t, s.table, m, s.has.onMonitor(m))
		}
		expectTable(t, s.table, s.has)
		l = append(l, s)
	}
	return l
}

// tables are two without halves: a new one, and one that New did not make.
func tables() []*mons.Table { return []*mons.Table{mons.New(), {}} }

// stopAt ends a test at the first standing at which it failed.
func (s standing) stopAt(t *testing.T) {
	t.Helper()
	if t.Failed() {
		t.Fatalf("where 10 is %s", s.name)
	}
}
