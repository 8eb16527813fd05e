package names_test

import (
	"math"
	"runtime"
	"slices"
	"strings"
	"testing"

	"exitwave/api"
	"exitwave/names"
)

// pids are those that may have a name: the first ones, some in the midst, and the last ones that an int can be.
var pids = []int{1, 2, 3, 7, 1 << 10, 1<<20 + 1, 1 << 32, 1<<32 + 1, 1 << 40, math.MaxInt - 1, math.MaxInt}

// noPids are those that may have none.
var noPids = []int{0, -1, -2, -7, -1 << 32, -1<<32 + 1, -1 << 40, math.MinInt + 1, math.MinInt}

// texts are names that may be: of one byte, of MaxAtom and of one fewer, of any bytes, near `undefined`.
var texts = []string{
	"a", "b", " ", "\x00", "\xff", "ab", "\xff\xfe", "normal", "'EXIT'", "true",
	"undefine", "undefined ", " undefined", "undefinee", "Undefined", "'undefined'", "undefined\x00", "ndefined",
	strings.Repeat("n", api.MaxAtom-1), strings.Repeat("n", api.MaxAtom), strings.Repeat("\x00", api.MaxAtom), strings.Repeat("é", api.MaxAtom/2),
}

// noTexts are those that may not be: of no bytes, of more than MaxAtom (by bytes, not by runes), `undefined`.
var noTexts = []string{
	"", "undefined", strings.Repeat("n", api.MaxAtom+1), strings.Repeat("\x00", api.MaxAtom+1), strings.Repeat("é", api.MaxAtom/2+1), strings.Repeat("é", api.MaxAtom), strings.Repeat("n", 1<<16),
}

// pair says that a name is a process's.
type pair struct {
	name string
	pid  int
}

// list says chapter 17 once more: the pairs that hold, none of them at any place of its own.
type list []pair

func (l list) ofName(name string) int {
	return slices.IndexFunc(l, func(p pair) bool { return p.name == name })
}

func (l list) ofPid(pid int) int {
	return slices.IndexFunc(l, func(p pair) bool { return p.pid == pid })
}

func (l *list) register(name string, pid int) api.Errno {
	if len(name) < 1 || len(name) > 64 || name == "undefined" || pid < 1 || l.ofName(name) >= 0 || l.ofPid(pid) >= 0 {
		return api.ErrBad
	}
	*l = append(*l, pair{name, pid})
	return api.OK
}

func (l *list) unregister(name string) api.Errno {
	if !l.strike(l.ofName(name)) {
		return api.ErrBad
	}
	return api.OK
}

func (l *list) release(pid int) bool { return l.strike(l.ofPid(pid)) }

func (l *list) strike(at int) bool {
	if at >= 0 {
		*l = slices.Delete(*l, at, at+1)
	}
	return at >= 0
}

func (l list) names() []string {
	var told []string
	for _, p := range l {
		told = append(told, p.name)
	}
	slices.SortFunc(told, strings.Compare)
	return told
}

func expectRegister(t *testing.T, x *names.Names, name string, pid int, want api.Errno) {
	t.Helper()
	if e := x.Register(name, pid); e != want {
		t.Errorf("P1701 Register(%q, %d): %v; want %v", name, pid, e, want)
	}
}

func expectUnregister(t *testing.T, x *names.Names, name string, want api.Errno) {
	t.Helper()
	if e := x.Unregister(name); e != want {
		t.Errorf("P1701 Unregister(%q): %v; want %v", name, e, want)
	}
}

func expectRelease(t *testing.T, x *names.Names, pid int, want bool) {
	t.Helper()
	if is := x.Release(pid); is != want {
		t.Errorf("P1701 Release(%d): %v; want %v", pid, is, want)
	}
}

// expectWhereis wants a pid, or 0, where the name is none's.
func expectWhereis(t *testing.T, x *names.Names, name string, want int) {
	t.Helper()
	if pid, is := x.Whereis(name); pid != want || is != (want != 0) {
		t.Errorf("P1702 Whereis(%q): %d, %v; want %d", name, pid, is, want)
	}
}

// expectOf wants a name, or one of no bytes, where the pid has none.
func expectOf(t *testing.T, x *names.Names, pid int, want string) {
	t.Helper()
	if name, is := x.Of(pid); name != want || is != (want != "") {
		t.Errorf("P1702 Of(%d): %q, %v; want %q", pid, name, is, want)
	}
}

// expectNames holds all that a registry tells, without being changed, against the pairs that hold.
func expectNames(t *testing.T, x *names.Names, l list) {
	t.Helper()
	if told, want := x.All(), l.names(); !slices.Equal(told, want) {
		t.Errorf("P1702 All: %q; want %q", told, want)
	}
	for _, p := range l {
		expectWhereis(t, x, p.name, p.pid)
		expectOf(t, x, p.pid, p.name)
	}
}

// expectNone wants each name of the samples to be none's, each pid to have none, but those that hold.
func expectNone(t *testing.T, x *names.Names, l list) {
	t.Helper()
	for _, name := range slices.Concat(texts, noTexts) {
		if l.ofName(name) < 0 {
			expectWhereis(t, x, name, 0)
		}
	}
	for _, pid := range slices.Concat(pids, noPids) {
		if l.ofPid(pid) < 0 {
			expectOf(t, x, pid, "")
		}
	}
}

// some is a registry in which a few names are some process's, and which had others that are let go.
func some(t *testing.T) (*names.Names, list) {
	t.Helper()
	x, l := names.New(), list{}
	for _, p := range []pair{{"m", 7}, {"gone", 3}, {"k", 20}, {"left", 5}, {"z", 1}} {
		expectRegister(t, x, p.name, p.pid, l.register(p.name, p.pid))
	}
	expectUnregister(t, x, "gone", l.unregister("gone"))
	expectRelease(t, x, 5, l.release(5))
	expectNames(t, x, l)
	return x, l
}

// registries are two without names: a new one, and one that New did not make.
func registries() []*names.Names { return []*names.Names{names.New(), {}} }

func inUse() int64 {
	var m runtime.MemStats
	runtime.GC()
	runtime.GC()
	runtime.ReadMemStats(&m)
	return int64(m.HeapAlloc)
}
