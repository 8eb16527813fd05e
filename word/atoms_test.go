package word_test

import (
	"fmt"
	"math"
	"math/rand"
	"strings"
	"testing"
	"unsafe"

	"exitwave/api"
	"exitwave/word"
)

func expectNumber(t *testing.T, a *word.Atoms, s string, want int, wantE api.Errno) {
	t.Helper()
	if n, e := a.Number(s); n != want || e != wantE {
		t.Errorf("P303 Number(%q): %d, %v; want %d, %v", s, n, e, want, wantE)
	}
}

// expectTable fails, if a table does not have just these texts, by their numbers.
func expectTable(t *testing.T, a *word.Atoms, texts ...string) {
	t.Helper()
	if a.Len() != len(texts) {
		t.Errorf("P303 Len: %d; want %d", a.Len(), len(texts))
	}
	for n, want := range texts {
		if s, is := a.Text(n); s != want || !is {
			t.Errorf("P303 Text(%d): %q, %v; want %q", n, s, is, want)
		}
	}
	for _, n := range []int{len(texts), len(texts) + 1, -1, -2, math.MinInt, math.MaxInt, 1 << 32} {
		if s, is := a.Text(n); s != "" || is {
			t.Errorf("P303, P4 Text(%d): %q, %v; there is none", n, s, is)
		}
	}
}

func TestP303Empty(t *testing.T) {
	expectTable(t, word.NewAtoms())
}

func TestP303Numbers(t *testing.T) {
	a := word.NewAtoms()
	most := strings.Repeat("x", 64)
	runes := strings.Repeat("é", 32)
	texts := []string{"a", "b", "", "\x00", "\xff\xfe", most, most[:63], "A", "a ", runes}
	for n, s := range texts {
		expectNumber(t, a, s, n, api.OK)
		expectTable(t, a, texts[:n+1]...)
	}
	for n := len(texts) - 1; n >= 0; n-- {
		expectNumber(t, a, texts[n], n, api.OK)
	}
	expectTable(t, a, texts...)
}

// A text without bytes is one as others are, also the first.
func TestP303NoBytes(t *testing.T) {
	a := word.NewAtoms()
	expectNumber(t, a, "", 0, api.OK)
	expectTable(t, a, "")
	expectNumber(t, a, "b", 1, api.OK)
	expectNumber(t, a, "", 0, api.OK)
	expectTable(t, a, "", "b")
}

// What was refused has changed nothing (P5): the numbers go on as if it had not been asked for.
func TestP303Long(t *testing.T) {
	a := word.NewAtoms()
	long := []string{strings.Repeat("x", 65), strings.Repeat("é", 33), strings.Repeat("\x00", 1000), strings.Repeat("y", 1<<20)}
	for _, s := range long {
		expectNumber(t, a, s, 0, api.ErrLong)
	}
	expectTable(t, a)
	expectNumber(t, a, "a", 0, api.OK)
	for _, s := range append(long, long...) {
		expectNumber(t, a, s, 0, api.ErrLong)
	}
	expectTable(t, a, "a")
	expectNumber(t, a, "b", 1, api.OK)
	expectNumber(t, a, long[0][:64], 2, api.OK)
	expectTable(t, a, "a", "b", long[0][:64])
}

// Tables know nothing of each other (P7).
func TestP303Apart(t *testing.T) {
	a, b := word.NewAtoms(), word.NewAtoms()
	expectNumber(t, a, "a", 0, api.OK)
	expectTable(t, b)
	expectNumber(t, b, "b", 0, api.OK)
	expectNumber(t, b, "a", 1, api.OK)
	expectNumber(t, a, "c", 1, api.OK)
	expectTable(t, a, "a", "c")
	expectTable(t, b, "b", "a")
}

// The memory of a text that was handed in is not kept (P2).
func TestP303OwnMemory(t *testing.T) {
	a := word.NewAtoms()
	room := []byte("abc")
	expectNumber(t, a, unsafe.String(&room[0], len(room)), 0, api.OK)
	copy(room, "xyz")
	expectTable(t, a, "abc")
	expectNumber(t, a, "abc", 0, api.OK)
	expectNumber(t, a, "xyz", 1, api.OK)
}

// A table that NewAtoms did not make is one without atoms, and panics no more than others (P1).
func TestP1ZeroAtoms(t *testing.T) {
	var a word.Atoms
	expectTable(t, &a)
	expectNumber(t, &a, strings.Repeat("x", 65), 0, api.ErrLong)
	expectNumber(t, &a, "a", 0, api.OK)
	expectTable(t, &a, "a")
}

func TestP305Atoms(t *testing.T) {
	a, again := word.NewAtoms(), word.NewAtoms()
	r := rand.New(rand.NewSource(305))
	texts := map[int]string{}
	numbers := map[string]int{}
	for range 20000 {
		s := anyText(r)
		n, e := a.Number(s)
		if m, f := again.Number(s); m != n || f != e {
			t.Fatalf("P3 Number(%q): %d, %v; then %d, %v", s, n, e, m, f)
		}
		if e != api.OK {
			t.Fatalf("P303 Number(%q): %v", s, e)
		}
		if before, is := numbers[s]; is && before != n {
			t.Fatalf("P303 Number(%q): %d, then %d", s, before, n)
		}
		if other, is := texts[n]; is && other != s {
			t.Fatalf("P305 %q and %q have one number: %d", s, other, n)
		}
		texts[n], numbers[s] = s, n
		if back, is := a.Text(n); back != s || !is {
			t.Fatalf("P305 Text(%d): %q, %v; want %q", n, back, is, s)
		}
	}
	if a.Len() != len(numbers) {
		t.Errorf("P303 Len: %d; want %d", a.Len(), len(numbers))
	}
	for n := range a.Len() {
		s, is := a.Text(n)
		if m, e := a.Number(s); m != n || e != api.OK || !is {
			t.Errorf("P305 Number of Text(%d): %d, %v", n, m, e)
		}
	}
}

// anyText is one of few short texts, or one of any bytes.
func anyText(r *rand.Rand) string {
	if r.Intn(2) == 0 {
		return fmt.Sprint("a", r.Intn(500))
	}
	b := make([]byte, r.Intn(65))
	for i := range b {
		b[i] = byte(r.Intn(256))
	}
	return string(b)
}
