package tree

import (
	"iter"
	"math"
)

// node is the root of a tree, or of a part of one; nil is that of none. Once made it is not changed, since trees and sequences share it: a change makes anew what stands above it.
type node[V any] struct {
	left, right *node[V] // their heights differ by one at most
	high        int
	key         int
	value       V
}

func (n *node[V]) height() int {
	if n == nil {
		return 0
	}
	return n.high
}

// find answers nil, if there is no such key.
func (n *node[V]) find(key int) *node[V] {
	for n != nil && n.key != key {
		if key < n.key {
			n = n.left
		} else {
			n = n.right
		}
	}
	return n
}

// with answers a root below which key has v.
func (n *node[V]) with(key int, v V) *node[V] {
	switch {
	case n == nil:
		return &node[V]{high: 1, key: key, value: v}
	case key < n.key:
		return n.balanced(n.left.with(key, v), n.right)
	case key > n.key:
		return n.balanced(n.left, n.right.with(key, v))
	}
	return &node[V]{left: n.left, right: n.right, high: n.high, key: key, value: v}
}

// without answers a root below which key, which must be there, is no more.
func (n *node[V]) without(key int) *node[V] {
	switch {
	case key < n.key:
		return n.balanced(n.left.without(key), n.right)
	case key > n.key:
		return n.balanced(n.left, n.right.without(key))
	case n.right == nil:
		return n.left
	}
	next := n.right.first() // it takes n's place
	return next.balanced(n.left, n.right.without(next.key))
}

// over answers n's key and value above these two.
func (n *node[V]) over(left, right *node[V]) *node[V] {
	high := 1 + max(left.height(), right.height())
	return &node[V]{left: left, right: right, high: high, key: n.key, value: n.value}
}

// balanced is over, where one side may be two higher: then that side's root comes to the top, or, if its inner part is the higher one, the root of that.
func (n *node[V]) balanced(left, right *node[V]) *node[V] {
	switch left.height() - right.height() {
	case 2:
		if inner := left.right; inner.height() > left.left.height() {
			return inner.over(left.over(left.left, inner.left), n.over(inner.right, right))
		}
		return left.over(left.left, n.over(left.right, right))
	case -2:
		if inner := right.left; inner.height() > right.right.height() {
			return inner.over(n.over(left, inner.left), right.over(inner.right, right.right))
		}
		return right.over(n.over(left, right.left), right.right)
	}
	return n.over(left, right)
}

// first answers nil, if there is no node.
func (n *node[V]) first() *node[V] {
	for least := range n.from(math.MinInt) {
		return least
	}
	return nil
}

// from goes over the nodes from key on, rising.
func (n *node[V]) from(key int) iter.Seq[*node[V]] {
	return func(yield func(*node[V]) bool) { n.tell(key, yield) }
}

// tell answers whether yield wants more.
func (n *node[V]) tell(key int, yield func(*node[V]) bool) bool {
	if n == nil {
		return true
	}
	if key < n.key && !n.left.tell(key, yield) {
		return false
	}
	if key <= n.key && !yield(n) {
		return false
	}
	return n.right.tell(key, yield)
}
