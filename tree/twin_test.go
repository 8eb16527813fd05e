package tree_test

import (
	"fmt"
	"maps"
	"testing"

	"exitwave/tree"
)

func TestP1302TwinSame(t *testing.T) {
	for n := range 20 {
		x, has := made(outward(n)...)
		y := x.Twin()
		expectTree(t, y, has)
		if y == x || y.Height() != x.Height() {
			t.Errorf("P1302 Twin of %d keys: height %d; want %d", n, y.Height(), x.Height())
		}
		expectTree(t, x, has)
	}
	var zero tree.Tree[string]
	expectTree(t, zero.Twin(), map[int]string{})
}

// A twin and its tree changed on either side: the other one stays.
func TestP1302TwinApart(t *testing.T) {
	for _, c := range changes() {
		for side := range 2 {
			x, has := made(8, 4, 12, 2, 6, 10, 14, 16, 18)
			pair := [2]*tree.Tree[int]{x, x.Twin()}
			c.do(pair[side])
			expectTree(t, pair[1-side], has)
		}
	}
}

// Both are changed in turn, each its own way.
func TestP1302TwinBoth(t *testing.T) {
	x, has := made(rising(50)...)
	y, other := x.Twin(), maps.Clone(has)
	for key := 1; key <= 50; key++ {
		expectDrop(t, x, key, true)
		delete(has, key)
		expectPut(t, y, key, -key, false)
		other[key] = -key
		expectPut(t, y, 100+key, key, true)
		other[100+key] = key
		expectPut(t, x, 200+key, key, true)
		has[200+key] = key
		expectLight(t, x, has)
		expectLight(t, y, other)
	}
	expectTree(t, x, has)
	expectTree(t, y, other)
}

// Twins of twins, one of each state: each stays as it was, and can be changed by itself.
func TestP1302TwinStates(t *testing.T) {
	x, has := tree.New[int](), map[int]int{}
	var twins []*tree.Tree[int]
	var wants []map[int]int
	step := func(key int, there bool) {
		twins = append(twins, x)
		wants = append(wants, maps.Clone(has))
		x = x.Twin()
		if there {
			x.Put(key, len(twins))
			has[key] = len(twins)
		} else {
			x.Drop(key)
			delete(has, key)
		}
	}
	for _, key := range jumping(40) {
		step(key, true)
	}
	for _, key := range inward(40) {
		step(key, false)
		step(key/2, true)
	}
	for n, y := range twins {
		expectLight(t, y, wants[n])
		for key := 1; key <= 40; key += 3 {
			y.Drop(key)
			delete(wants[n], key)
		}
		y.Put(-n, n)
		wants[n][-n] = n
	}
	for n, y := range twins {
		expectLight(t, y, wants[n])
	}
}

// A sequence of a tree does not hang on its twin, nor one of the twin on the tree.
func TestP1302TwinSequences(t *testing.T) {
	for _, c := range changes() {
		x, has := made(8, 4, 12, 2, 6, 10, 14)
		y := x.Twin()
		ofTree, ofTwin := x.All(), y.From(7)
		c.do(x)
		c.do(y)
		expectSeq(t, fmt.Sprint("All ahead of ", c.name), ofTree, sorted(has, 0))
		expectSeq(t, fmt.Sprint("From 7 of a twin ahead of ", c.name), ofTwin, sorted(has, 7))
	}
}

// Two trees have nothing in common (P7).
func TestP1301Two(t *testing.T) {
	x, has := made(rising(9)...)
	y := tree.New[int]()
	expectTree(t, y, map[int]int{})
	y.Put(3, 1)
	y.Drop(4)
	expectTree(t, x, has)
	expectTree(t, y, map[int]int{3: 1})
}
