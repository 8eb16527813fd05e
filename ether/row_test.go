package ether_test

import (
	"math"
	"math/rand"
	"runtime"
	"slices"
	"testing"
	"weak"

	"exitwave/ether"
)

// expectRow holds a row against what it must have.
func expectRow[T comparable](t *testing.T, r *ether.Row[T], want []T) {
	t.Helper()
	if n := r.Len(); n != len(want) {
		t.Fatalf("P1104 Len: %d; want %d", n, len(want))
	}
	if l := r.All(); !slices.Equal(l, want) {
		t.Fatalf("P1104 All: %s; want %s", said(l), said(want))
	}
}

// expectPop takes the first of what a row must have, and tells what is left of that; of nothing nothing.
func expectPop[T comparable](t *testing.T, r *ether.Row[T], want []T) []T {
	t.Helper()
	x, there := r.Pop()
	if len(want) == 0 {
		var zero T
		if there || x != zero {
			t.Fatalf("P1104 Pop: %v, %v; want nothing", x, there)
		}
		return nil
	}
	if !there || x != want[0] {
		t.Fatalf("P1104 Pop: %v, %v; want %v", x, there, want[0])
	}
	return want[1:]
}

// played pushes and pops in turn: so many in, so many out, and so on, as far as there are items.
func played[T comparable](t *testing.T, items []T, in, out int) {
	t.Helper()
	r := ether.NewRow[T]()
	var want []T
	for len(items) > 0 {
		for _, x := range items[:min(in, len(items))] {
			r.Push(x)
			want = append(want, x)
			expectRow(t, r, want)
		}
		items = items[min(in, len(items)):]
		for range out {
			want = expectPop(t, r, want)
			expectRow(t, r, want)
		}
	}
	for range len(want) + 2 {
		want = expectPop(t, r, want)
		expectRow(t, r, want)
	}
}

func numbered(n int) []int {
	l := make([]int, n)
	for i := range l {
		l[i] = i + 1
	}
	return l
}

func TestP1104Turns(t *testing.T) {
	type pair struct {
		name string
		n    [2]int
	}
	one, two := new(int), new(int)
	for in := 1; in <= 9; in++ {
		for out := 0; out <= 9; out++ {
			played(t, numbered(60), in, out)
			played(t, []string{"a", "", "c", "c", "", "f", "\x00"}, in, out)
			played(t, []pair{{"a", [2]int{1, 2}}, {}, {"b", [2]int{0, 2}}, {"a", [2]int{1, 2}}}, in, out)
			played(t, []*int{one, nil, two, one}, in, out)
			played(t, []any{1, "a", nil, 2.5, struct{}{}}, in, out)
			played(t, make([]struct{}, 12), in, out)
			played(t, []float64{1, 0, math.Inf(-1)}, in, out)
			played(t, []bool{true, false, false, true, true}, in, out)
		}
	}
}

func TestP1104ByChance(t *testing.T) {
	r := rand.New(rand.NewSource(1104))
	for range 300 {
		row := ether.NewRow[int]()
		var want []int
		likely := 1 + r.Intn(9)
		for n := range 400 {
			if n%100 == 99 {
				likely = 1 + r.Intn(9)
			}
			if r.Intn(10) < likely {
				row.Push(n)
				want = append(want, n)
			} else {
				want = expectPop(t, row, want)
			}
			expectRow(t, row, want)
		}
	}
}

// A long run costs no more for each item than a short one: if it did, this would not end for hours.
func TestP1104Long(t *testing.T) {
	const long = 1 << 20
	r := ether.NewRow[int]()
	for n := range long {
		r.Push(n)
	}
	for n := range long { // in turn, when it is long
		r.Push(long + n)
		if x, there := r.Pop(); x != n || !there || r.Len() != long {
			t.Fatalf("P1104 Pop: %d, %v, Len %d; want %d", x, there, r.Len(), n)
		}
	}
	l := r.All()
	if len(l) != long || l[0] != long || l[long-1] != 2*long-1 {
		t.Fatalf("P1104 All: %d", len(l))
	}
	for n := range long {
		if x, there := r.Pop(); x != long+n || !there {
			t.Fatalf("P1104 Pop: %d, %v; want %d", x, there, long+n)
		}
	}
	expectRow(t, r, nil)
	for n := range long { // in turn, when it is short
		r.Push(n)
		if x, there := r.Pop(); x != n || !there || r.Len() != 0 {
			t.Fatalf("P1104 Pop: %d, %v, Len %d; want %d", x, there, r.Len(), n)
		}
	}
}

// What All tells is the caller's own, its spare room too, and stays as it was (P2).
func TestP1104Own(t *testing.T) {
	for popped := range 6 {
		r := ether.NewRow[int]()
		for n := range 10 {
			r.Push(n)
		}
		want := numbered(9 - popped)
		for i := range want {
			want[i] += popped
		}
		for range popped + 1 {
			r.Pop()
		}
		l, kept := r.All(), r.All()
		for i := range l[:cap(l)] {
			l[:cap(l)][i] = -1
		}
		expectRow(t, r, want)
		r.Push(77)
		expectRow(t, r, append(slices.Clone(want), 77))
		r.Pop()
		r.Push(78)
		if !slices.Equal(kept, want) {
			t.Errorf("P2 All: what was told changed: %v; want %v", kept, want)
		}
	}
}

// A row that NewRow did not make is one, too; two rows have nothing in common (P7).
func TestP1104Two(t *testing.T) {
	var a ether.Row[string]
	expectRow(t, &a, nil)
	expectPop(t, &a, nil)
	b := ether.NewRow[string]()
	a.Push("a")
	b.Push("b")
	b.Push("c")
	expectRow(t, &a, []string{"a"})
	expectRow(t, b, []string{"b", "c"})
	expectPop(t, &a, []string{"a"})
	expectRow(t, b, []string{"b", "c"})
}

// What was popped is not kept: nothing but the items that are there is reached from a row.
func TestP1104NotKept(t *testing.T) {
	r := ether.NewRow[*[100]int]()
	var seen []weak.Pointer[[100]int]
	for range 20 {
		x := new([100]int)
		r.Push(x)
		seen = append(seen, weak.Make(x))
	}
	for popped := range 20 {
		runtime.GC()
		for n, p := range seen {
			if (p.Value() != nil) != (n >= popped) {
				t.Fatalf("behind %d Pops item %d is kept: %v", popped, n, p.Value() != nil)
			}
		}
		r.Pop()
	}
	runtime.KeepAlive(r)
}

// inUse is how much memory is reached.
func inUse() int64 {
	var m runtime.MemStats
	runtime.GC()
	runtime.ReadMemStats(&m)
	return int64(m.HeapAlloc)
}

// Neither a row that was long once, nor one through which many went, keeps room for them.
func TestP1104Room(t *testing.T) {
	before := inUse()
	long, busy := ether.NewRow[[8]int](), ether.NewRow[[8]int]()
	for n := range 1 << 18 {
		long.Push([8]int{n})
	}
	for long.Len() > 10 {
		long.Pop()
	}
	for range 10 {
		busy.Push([8]int{})
	}
	for n := range 1 << 18 {
		busy.Push([8]int{n})
		busy.Pop()
	}
	if more := inUse() - before; more > 1<<20 {
		t.Errorf("two rows of ten items keep %d bytes", more)
	}
	runtime.KeepAlive(long)
	runtime.KeepAlive(busy)
}
