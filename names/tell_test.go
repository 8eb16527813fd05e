package names_test

import (
	"math/rand"
	"slices"
	"strings"
	"testing"
	"unsafe"

	"exitwave/api"
	"exitwave/names"
)

// Whereis and Of tell the one beside the other, and nothing of what was, or is nearly so.
func TestP1702Whose(t *testing.T) {
	x, l := some(t)
	for range 2 {
		for _, p := range []pair{{"m", 7}, {"k", 20}, {"z", 1}} {
			expectWhereis(t, x, p.name, p.pid)
			expectOf(t, x, p.pid, p.name)
		}
	}
	for _, name := range slices.Concat(texts, noTexts, []string{"gone", "left", "M", "mm", "m ", "m\x00", "7"}) {
		expectWhereis(t, x, name, 0)
	}
	for _, pid := range slices.Concat(noPids, []int{2, 3, 5, 6, 8, -20, 1<<32 + 7, 1<<32 + 20, 1 << 40}) {
		expectOf(t, x, pid, "")
	}
	expectNames(t, x, l)
}

// All of none, of one, and of many: by their bytes, whoever has them and in whatever order they came.
func TestP1702All(t *testing.T) {
	want := []string{"", "\x00", "\x00\x00", " ", "!", "A", "AB", "B", "_", "a", "a\x00", "a ", "aB", "aa", "ab", "b", "é", "\xff", "\xff\x00", "\xff\xff"}[1:]
	r := rand.New(rand.NewSource(17))
	for range 50 {
		x, l := names.New(), list{}
		if told := x.All(); len(told) != 0 {
			t.Fatalf("P1702 All of none: %q", told)
		}
		for i, at := range r.Perm(len(want)) {
			pid := (i*7)%len(want) + 1
			expectRegister(t, x, want[at], pid, api.OK)
			l.register(want[at], pid)
			expectNames(t, x, l)
		}
		if told := x.All(); !slices.Equal(told, want) {
			t.Fatalf("P1702 All: %q; want %q", told, want)
		}
		for _, at := range r.Perm(len(want)) {
			expectUnregister(t, x, want[at], l.unregister(want[at]))
			expectNames(t, x, l)
		}
	}
}

// What All told is the caller's own: written over, also in its spare room, it changes nothing of the registry, nor of what was told before (P2).
func TestP1702Own(t *testing.T) {
	x, l := some(t)
	before, told := x.All(), x.All()
	told = told[:cap(told)]
	for i := range told {
		told[i] = "over"
	}
	told = append(told[:1], "more", "and more")
	expectNames(t, x, l)
	if !slices.Equal(before, l.names()) {
		t.Errorf("P2: what was told earlier is %q", before)
	}
	for _, name := range told {
		if name != "" {
			expectWhereis(t, x, name, 0)
		}
	}
}

// What was told stays as it is, whatever is called behind it.
func TestP1702Stays(t *testing.T) {
	x, l := some(t)
	all, want := x.All(), l.names()
	name, _ := x.Of(20)
	pid, _ := x.Whereis("m")
	expectUnregister(t, x, "k", api.OK)
	expectRelease(t, x, 7, true)
	expectRegister(t, x, "m", 20, api.OK)
	expectRegister(t, x, "aaa", 7, api.OK)
	if !slices.Equal(all, want) || name != "k" || pid != 7 {
		t.Errorf("P2: what was told is now %q, %q, %d", all, name, pid)
	}
}

// No text that is told shares memory with one that was handed in, or with another one that is told (P2, rule 7 of the language).
func TestP1702NewMemory(t *testing.T) {
	x := names.New()
	given := strings.Repeat("n", 40)
	expectRegister(t, x, given, 1, api.OK)
	seen := []string{given}
	for range 3 {
		name, _ := x.Of(1)
		seen = append(append(seen, name), x.All()...)
	}
	for i, a := range seen {
		for _, b := range seen[:i] {
			if a != given || unsafe.StringData(a) == unsafe.StringData(b) {
				t.Fatalf("P2: %q is not memory of its own", a)
			}
		}
	}
}

// A name may be a small piece of a great text, which is not kept (P2).
func TestP1702NameOwn(t *testing.T) {
	x, l := names.New(), list{}
	before := inUse()
	for n := 1; n <= api.MaxAtom; n++ {
		text := strings.Repeat("name", 1<<18)
		expectRegister(t, x, text[:n], n, api.OK)
		l.register(strings.Repeat("name", 16)[:n], n)
	}
	if more := inUse() - before; more > 1<<20 {
		t.Errorf("P2: names of %d bytes at most keep %d bytes", api.MaxAtom, more)
	}
	expectNames(t, x, l)
}
