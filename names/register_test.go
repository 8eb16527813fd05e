package names_test

import (
	"slices"
	"strings"
	"testing"

	"exitwave/api"
	"exitwave/names"
)

// Each name that may be with each pid that may have one: they are each other's then, and no other is.
func TestP1701Register(t *testing.T) {
	for _, name := range texts {
		for _, pid := range pids {
			x := names.New()
			expectRegister(t, x, name, pid, api.OK)
			l := list{{name, pid}}
			expectNames(t, x, l)
			expectNone(t, x, l)
		}
	}
}

// Each byte may be a name, and a piece of one; each number of bytes from 1 to MaxAtom.
func TestP1701Bytes(t *testing.T) {
	x, l := names.New(), list{}
	for b := range 256 {
		for i, name := range []string{string([]byte{byte(b)}), "x" + string([]byte{byte(b)}), strings.Repeat(string([]byte{byte(b)}), 64)} {
			pid := 3*b + i + 1
			expectRegister(t, x, name, pid, api.OK)
			l.register(name, pid)
		}
	}
	expectNames(t, x, l)
	x = names.New()
	for n := range 200 {
		want := api.OK
		if n < 1 || n > api.MaxAtom {
			want = api.ErrBad
		}
		expectRegister(t, x, strings.Repeat("y", n), n+1, want)
	}
}

// Names that may not be, and pids that may have none: refused with whatever they come, and nothing is changed (P5).
func TestP1701Wrong(t *testing.T) {
	x, l := some(t)
	for _, name := range noTexts {
		for _, pid := range slices.Concat(pids, noPids, []int{5, 20, 21}) {
			expectRegister(t, x, name, pid, api.ErrBad)
		}
		expectUnregister(t, x, name, api.ErrBad)
		expectNames(t, x, l)
		expectNone(t, x, l)
	}
	for _, pid := range noPids {
		for _, name := range slices.Concat(texts, []string{"m", "gone", "left", "new"}) {
			expectRegister(t, x, name, pid, api.ErrBad)
		}
		expectRelease(t, x, pid, false)
		expectNames(t, x, l)
		expectNone(t, x, l)
	}
}

// A name that is some process's, a pid that has a name: refused, also where they are each other's; nothing is changed.
func TestP1701Taken(t *testing.T) {
	x, l := some(t)
	for _, name := range []string{"m", "k", "z"} {
		for _, pid := range []int{7, 20, 1, 3, 5, 2, 1 << 40} {
			expectRegister(t, x, name, pid, api.ErrBad)
			expectNames(t, x, l)
		}
	}
	for _, pid := range []int{7, 20, 1} {
		for _, name := range []string{"gone", "left", "new", "M", "mm", "m\x00"} {
			expectRegister(t, x, name, pid, api.ErrBad)
			expectNames(t, x, l)
		}
	}
	expectNone(t, x, l)
}

// A name that was some process's, a pid that had a name: they may be anyone's again, each other's too.
func TestP1701Again(t *testing.T) {
	for _, p := range []pair{{"gone", 3}, {"gone", 5}, {"left", 3}, {"left", 5}, {"new", 3}, {"new", 5}, {"gone", 2}, {"left", 2}} {
		x, l := some(t)
		expectWhereis(t, x, "gone", 0)
		expectWhereis(t, x, "left", 0)
		expectOf(t, x, 3, "")
		expectOf(t, x, 5, "")
		l.register(p.name, p.pid)
		expectRegister(t, x, p.name, p.pid, api.OK)
		expectNames(t, x, l)
		expectNone(t, x, l)
	}
}

// endings are the two ways in which a pair is let go: by its name, and by its pid.
func endings() map[string]func(t *testing.T, x *names.Names, p pair) {
	return map[string]func(t *testing.T, x *names.Names, p pair){
		"Unregister": func(t *testing.T, x *names.Names, p pair) { expectUnregister(t, x, p.name, api.OK) },
		"Release":    func(t *testing.T, x *names.Names, p pair) { expectRelease(t, x, p.pid, true) },
	}
}

// Unregister and Release let go the one pair that they speak of; whichever came, neither finds it then; the pair may be entered again.
func TestP1701Endings(t *testing.T) {
	for how, end := range endings() {
		for _, p := range []pair{{"m", 7}, {"k", 20}, {"z", 1}} {
			x, l := some(t)
			for range 3 {
				l.release(p.pid)
				end(t, x, p)
				for range 2 {
					expectUnregister(t, x, p.name, api.ErrBad)
					expectRelease(t, x, p.pid, false)
					expectWhereis(t, x, p.name, 0)
					expectOf(t, x, p.pid, "")
					expectNames(t, x, l)
				}
				expectNone(t, x, l)
				l.register(p.name, p.pid)
				expectRegister(t, x, p.name, p.pid, api.OK)
				expectNames(t, x, l)
			}
			if t.Failed() {
				t.Fatalf("%s of %v", how, p)
			}
		}
	}
}

// A name that goes to another process, a pid that gets another name: what was the one's is not let go by the other one's end.
func TestP1701Moved(t *testing.T) {
	for how, end := range endings() {
		x, l := names.New(), list{}
		expectRegister(t, x, "a", 1, api.OK)
		end(t, x, pair{"a", 1})
		for _, p := range []pair{{"a", 2}, {"b", 1}} {
			expectRegister(t, x, p.name, p.pid, api.OK)
			l.register(p.name, p.pid)
		}
		expectNames(t, x, l)
		end(t, x, pair{"a", 2})
		expectWhereis(t, x, "b", 1)
		expectOf(t, x, 1, "b")
		expectRegister(t, x, "a", 1, api.ErrBad)
		expectRegister(t, x, "b", 2, api.ErrBad)
		l.release(2)
		expectNames(t, x, l)
		end(t, x, pair{"b", 1})
		expectNames(t, x, nil)
		if t.Failed() {
			t.Fatal(how)
		}
	}
}

// What is none's, and what never was: Unregister and Release change nothing.
func TestP1701NotThere(t *testing.T) {
	x, l := some(t)
	for _, name := range slices.Concat(texts, noTexts, []string{"gone", "left", "M", "mm", "m ", "m\x00", "7"}) {
		for range 2 {
			expectUnregister(t, x, name, api.ErrBad)
		}
	}
	expectNames(t, x, l)
	for _, pid := range slices.Concat(noPids, []int{2, 3, 5, 6, 8, -7, -20, 1<<32 + 7, 1<<32 + 20, 1 << 40}) {
		for range 2 {
			expectRelease(t, x, pid, false)
		}
	}
	expectNames(t, x, l)
}

// A registry without names: each call at it, with each name and each pid.
func TestP1701NoneAtAll(t *testing.T) {
	for _, x := range registries() {
		for _, name := range slices.Concat(texts, noTexts) {
			expectUnregister(t, x, name, api.ErrBad)
		}
		for _, pid := range slices.Concat(pids, noPids) {
			expectRelease(t, x, pid, false)
		}
		expectNames(t, x, nil)
		expectNone(t, x, nil)
		expectRegister(t, x, "a", 1, api.OK)
		expectNames(t, x, list{{"a", 1}})
	}
}
