package tree_test

import (
	"fmt"
	"math/rand"
	"testing"

	"exitwave/tree"
)

// So few keys have one height alone; of 0 to 6 all have.
func TestP1303Few(t *testing.T) {
	for n, want := range []int{0, 1, 2, 2, 3, 3, 3} {
		for keys := range orderings(n) {
			if x, _ := made(keys...); x.Height() != want {
				t.Fatalf("P1303 Height behind %v: %d; want %d", keys, x.Height(), want)
			}
		}
	}
}

// Few keys in every order, and gone again in every order.
func TestP1303EveryOrder(t *testing.T) {
	for n := 1; n <= 6; n++ {
		for keys := range orderings(n) {
			full, _ := made(keys...)
			for drops := range orderings(n) {
				x := full.Twin()
				for left, key := range drops {
					expectDrop(t, x, key, true)
					expectHeight(t, x)
					if x.Len() != n-left-1 {
						t.Fatalf("P1301 Len: %d; want %d", x.Len(), n-left-1)
					}
				}
				if t.Failed() {
					t.Fatalf("Put %v, Drop %v", keys, drops)
				}
			}
		}
	}
	for keys := range orderings(8) {
		x := tree.New[struct{}]()
		for _, key := range keys {
			x.Put(key, struct{}{})
			expectHeight(t, x)
		}
		if t.Failed() {
			t.Fatalf("Put %v", keys)
		}
	}
}

// Keys that rise, fall, come in any order; and gone again in each of these orders.
func TestP1303Rows(t *testing.T) {
	const n = 1008 // 1009 is prime
	for name, keys := range orders(n) {
		full := tree.New[int]()
		for _, key := range keys {
			expectPut(t, full, key, key, true)
			expectHeight(t, full)
		}
		for other, drops := range orders(n) {
			x := full.Twin()
			for _, key := range drops {
				expectDrop(t, x, key, true)
				expectHeight(t, x)
			}
			if t.Failed() {
				t.Fatalf("Put %s, Drop %s", name, other)
			}
		}
	}
}

// The leanest trees of a height: whichever key goes, and whichever one behind it, the rest is balanced.
func TestP1303Lean(t *testing.T) {
	for high := 1; high <= 9; high++ {
		keys := lean(high)
		for side, l := range [][]int{keys, mirrored(keys)} {
			full, has := made(l...)
			if full.Height() != high || full.Len() != leastKeys(high) {
				t.Fatalf("P1303: a lean tree of %d keys has height %d; want %d", full.Len(), full.Height(), high)
			}
			for gone := range has {
				x := full.Twin()
				expectDrop(t, x, gone, true)
				expectHeight(t, x)
				for next := range has {
					if next != gone {
						y := x.Twin()
						expectDrop(t, y, next, true)
						expectHeight(t, y)
					}
				}
				if t.Failed() {
					t.Fatalf("side %d, height %d, Drop %d", side, high, gone)
				}
			}
		}
	}
}

// A lean tree taken down from one end, and from its midst: at each height there is a least number of keys.
func TestP1303LeanDown(t *testing.T) {
	keys := lean(18)
	n := len(keys)
	for side, l := range [][]int{keys, mirrored(keys)} {
		full, _ := made(l...)
		if full.Height() != 18 {
			t.Fatalf("P1303: a lean tree of %d keys has height %d; want 18", n, full.Height())
		}
		for name, drops := range map[string][]int{"rising": rising(n), "falling": falling(n), "inward": inward(n), "outward": outward(n), "roots first": l, "chance": shuffled(rand.New(rand.NewSource(7)), n)} {
			x := full.Twin()
			for _, key := range drops {
				x.Drop(key)
				expectHeight(t, x)
			}
			if x.Len() != 0 || t.Failed() {
				t.Fatalf("side %d, Drop %s: %d keys are left", side, name, x.Len())
			}
		}
	}
}

// Keys come and go for long: a row that moves on, with always as many.
func TestP1303Moving(t *testing.T) {
	for _, wide := range []int{1, 2, 3, 7, 12, 100, 1000} {
		for _, by := range []int{1, -1} {
			x := tree.New[string]()
			for n := range 20000 {
				expectPut(t, x, by*n, fmt.Sprint(n), true)
				if n >= wide {
					expectDrop(t, x, by*(n-wide), true)
				}
				expectHeight(t, x)
				if t.Failed() {
					t.Fatalf("width %d, by %d", wide, by)
				}
			}
			if x.Len() != wide {
				t.Errorf("P1301 Len: %d; want %d", x.Len(), wide)
			}
		}
	}
}

// Many keys: if each cost as much as there are keys, this would not end for hours.
func TestP1303Many(t *testing.T) {
	const many = 1 << 18
	x := tree.New[int]()
	for n := range many {
		x.Put(n, -n)
	}
	expectHeight(t, x)
	for n := range many {
		if v, there := x.Get(n); v != -n || !there {
			t.Fatalf("P1301 Get(%d): %d, %v", n, v, there)
		}
		twin := x.Twin()
		for key := range twin.From(n) {
			if key != n {
				t.Fatalf("P1302 From(%d): %d", n, key)
			}
			break
		}
	}
	for n := range many {
		if key, v, there := x.First(); key != n || v != -n || !there || x.Len() != many-n {
			t.Fatalf("P1301 First: %d, %d, %v of %d", key, v, there, x.Len())
		}
		x.Drop(n)
		expectHeight(t, x)
	}
}
