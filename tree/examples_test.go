package tree_test

import (
	"testing"

	"exitwave/tree"
)

func TestExample1(t *testing.T) {
	x := tree.New[string]()
	for key := 1; key <= 1000; key++ {
		expectPut(t, x, key, "a", true)
	}
	if h := x.Height(); h > 14 || h < 10 {
		t.Errorf("example 1: Height %d; want 14 at most", h)
	}
	if leastKeys(14) != 986 || leastKeys(15) != 1596 {
		t.Errorf("example 1: F(16) - 1, F(17) - 1: %d, %d", leastKeys(14), leastKeys(15))
	}
}

func TestExample2(t *testing.T) {
	x := tree.New[string]()
	expectPut(t, x, 1, "a", true)
	expectPut(t, x, 1, "b", false)
	expectTree(t, x, map[int]string{1: "b"})
	expectDrop(t, x, 1, true)
	expectDrop(t, x, 1, false)
	expectTree(t, x, map[int]string{})
}
