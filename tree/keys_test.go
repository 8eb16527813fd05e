package tree_test

import (
	"math"
	"slices"
	"testing"

	"exitwave/tree"
)

func TestP1301New(t *testing.T) {
	x := tree.New[int]()
	expectTree(t, x, map[int]int{})
	for _, key := range edges {
		expectDrop(t, x, key, false)
		expectTree(t, x, map[int]int{})
	}
	var zero tree.Tree[string]
	expectTree(t, &zero, map[int]string{})
	expectDrop(t, &zero, 0, false)
	expectPut(t, &zero, 0, "a", true)
	expectTree(t, &zero, map[int]string{0: "a"})
}

// Each key alone: it is put, put again, dropped, and put once more.
func TestP1301One(t *testing.T) {
	for _, key := range edges {
		x := tree.New[string]()
		expectPut(t, x, key, "a", true)
		expectTree(t, x, map[int]string{key: "a"})
		expectPut(t, x, key, "b", false)
		expectTree(t, x, map[int]string{key: "b"})
		expectPut(t, x, key, "", false) // a zero value is something, too
		expectTree(t, x, map[int]string{key: ""})
		for _, other := range edges {
			if other != key {
				expectDrop(t, x, other, false)
			}
		}
		expectTree(t, x, map[int]string{key: ""})
		expectDrop(t, x, key, true)
		expectTree(t, x, map[int]string{})
		expectDrop(t, x, key, false)
		expectTree(t, x, map[int]string{})
		expectPut(t, x, key, "c", true)
		expectTree(t, x, map[int]string{key: "c"})
	}
}

// The least and the greatest int beside one another, and beside all others.
func TestP1301Edges(t *testing.T) {
	for turn := range edges {
		keys := slices.Concat(edges[turn:], edges[:turn])
		x, has := tree.New[int](), map[int]int{}
		for n, key := range keys {
			expectPut(t, x, key, n, true)
			has[key] = n
			expectTree(t, x, has)
		}
		for n, key := range keys {
			expectPut(t, x, key, -n, false)
			has[key] = -n
			expectTree(t, x, has)
		}
		for _, key := range keys {
			expectDrop(t, x, key, true)
			delete(has, key)
			expectTree(t, x, has)
		}
	}
}

// Put of a key that has something, in every place of trees of every size: nothing else changes, neither Len nor Height.
func TestP1301PutAgain(t *testing.T) {
	for n := 1; n <= 40; n++ {
		for key := 1; key <= n; key++ {
			x, has := made(rising(n)...)
			high := x.Height()
			expectPut(t, x, key, -key, false)
			has[key] = -key
			expectLight(t, x, has)
			if x.Height() != high {
				t.Errorf("P1303 Put(%d) of %d keys again: Height %d; want %d", key, n, x.Height(), high)
			}
		}
	}
}

// Drop of a key that has nothing, in every gap.
func TestP1301DropNone(t *testing.T) {
	x, has := tree.New[int](), map[int]int{}
	for key := 0; key <= 60; key += 2 {
		x.Put(key, key)
		has[key] = key
	}
	high := x.Height()
	for key := -1; key <= 61; key += 2 {
		expectDrop(t, x, key, false)
		expectLight(t, x, has)
	}
	if x.Height() != high {
		t.Errorf("P1303: Height %d behind Drops of nothing; want %d", x.Height(), high)
	}
}

// Drop of each key alone of trees of every size, in whose midst it stands.
func TestP1301DropEach(t *testing.T) {
	for n := 1; n <= 40; n++ {
		for _, keys := range [][]int{rising(n), falling(n), inward(n), outward(n)} {
			for key := 1; key <= n; key++ {
				x, has := made(keys...)
				expectDrop(t, x, key, true)
				delete(has, key)
				expectLight(t, x, has)
				expectGet(t, x, has, key)
				expectDrop(t, x, key, false)
				expectPut(t, x, key, 7, true)
				has[key] = 7
				expectLight(t, x, has)
			}
		}
	}
}

// First behind a Drop of the least key, till none is left; and behind a Put of a lesser one.
func TestP1301First(t *testing.T) {
	for name, keys := range orders(96) {
		x, has := made(keys...)
		for least := 1; least <= 96; least++ {
			if key, v, there := x.First(); key != least || v != 10*least || !there {
				t.Fatalf("P1301 First, %s: %d, %d, %v; want %d", name, key, v, there, least)
			}
			expectDrop(t, x, least, true)
			delete(has, least)
			expectFirst(t, x, has)
		}
		expectTree(t, x, map[int]int{})
	}
	x, has := made(5)
	for key := 4; key >= -50; key-- {
		x.Put(key, key)
		has[key] = key
		expectFirst(t, x, has)
	}
	x.Put(math.MinInt, 1)
	if key, v, there := x.First(); key != math.MinInt || v != 1 || !there {
		t.Errorf("P1301 First: %d, %d, %v; want the least int", key, v, there)
	}
}

// First takes nothing out, and a greater key that goes does not change it.
func TestP1301FirstStays(t *testing.T) {
	x, has := made(rising(30)...)
	for key := 30; key > 1; key-- {
		expectDrop(t, x, key, true)
		delete(has, key)
		for range 3 {
			expectFirst(t, x, has)
		}
		expectLight(t, x, has)
	}
}
