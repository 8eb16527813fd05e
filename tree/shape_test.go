package tree

import (
	"math/rand"
	"testing"
)

// looked goes down to every node: it tells how many there are, and how many stand on the longest way, and holds each node's sides against each other.
func looked[V any](t *testing.T, n *node[V]) (many, long int) {
	t.Helper()
	if n == nil {
		return 0, 0
	}
	fewer, left := looked(t, n.left)
	more, right := looked(t, n.right)
	if left-right > 1 || right-left > 1 {
		t.Errorf("P1303: at key %d the sides have heights %d, %d", n.key, left, right)
	}
	if n.left != nil && n.left.key >= n.key || n.right != nil && n.right.key <= n.key {
		t.Errorf("P1302: at key %d the sides are not in order", n.key)
	}
	return fewer + 1 + more, 1 + max(left, right)
}

func expectShape[V any](t *testing.T, x *Tree[V]) {
	t.Helper()
	many, long := looked(t, x.root)
	if x.Height() != long || x.Len() != many {
		t.Errorf("P1303: Height %d, Len %d; want %d, %d", x.Height(), x.Len(), long, many)
	}
}

// Height is that of the longest way, and each part of a tree is balanced, whatever comes and goes.
func TestP1303Shape(t *testing.T) {
	r := rand.New(rand.NewSource(1303))
	for range 200 {
		x := New[int]()
		wide, likely := 1+r.Intn(200), 1+r.Intn(9)
		for n := range 300 {
			if n%60 == 59 {
				likely = 1 + r.Intn(9)
			}
			if r.Intn(10) < likely {
				x.Put(r.Intn(wide), n)
			} else {
				x.Drop(r.Intn(wide))
			}
			expectShape(t, x)
			if t.Failed() {
				return
			}
		}
	}
}

func TestP1303ShapeRows(t *testing.T) {
	for _, by := range []int{1, -1} {
		for n := range 300 {
			x := New[struct{}]()
			for key := range n {
				x.Put(by*key, struct{}{})
			}
			expectShape(t, x)
			for key := range n / 2 {
				x.Drop(by * key)
			}
			expectShape(t, x)
			for key := range n {
				x.Drop(by * (n - key))
			}
			expectShape(t, x)
		}
	}
}
