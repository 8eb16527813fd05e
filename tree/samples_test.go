package tree_test

import (
	"fmt"
	"iter"
	"maps"
	"math"
	"math/rand"
	"slices"
	"testing"

	"exitwave/tree"
)

// edges are keys at the ends of what an int can be, and around 0.
var edges = []int{math.MinInt, math.MinInt + 1, -1 << 32, -2, -1, 0, 1, 2, 1 << 32, math.MaxInt - 1, math.MaxInt}

// pair is a key with what it has.
type pair[V any] struct {
	key int
	v   V
}

// told is what a sequence tells, in its order.
func told[V any](seq iter.Seq2[int, V]) []pair[V] {
	var l []pair[V]
	for key, v := range seq {
		l = append(l, pair[V]{key, v})
	}
	return l
}

// sorted says P1302 once more: the pairs of a map from a key on.
func sorted[V any](has map[int]V, from int) []pair[V] {
	var l []pair[V]
	for _, key := range slices.Sorted(maps.Keys(has)) {
		if key >= from {
			l = append(l, pair[V]{key, has[key]})
		}
	}
	return l
}

// leastKeys says P1303 once more: how few keys a tree of a height may have.
func leastKeys(height int) int {
	one, next := 1, 1 // F(1), F(2)
	for range height {
		one, next = next, one+next
	}
	return next - 1
}

func expectSeq[V comparable](t *testing.T, what string, seq iter.Seq2[int, V], want []pair[V]) {
	t.Helper()
	if l := told(seq); !slices.Equal(l, want) {
		t.Errorf("P1302 %s: %v; want %v", what, short(l), short(want))
	}
}

// short keeps what is said of a fault readable.
func short[V any](l []pair[V]) string {
	if len(l) > 20 {
		return fmt.Sprint(len(l), " keys: ", l[:10], " .. ", l[len(l)-10:])
	}
	return fmt.Sprint(l)
}

func expectGet[V comparable](t *testing.T, x *tree.Tree[V], has map[int]V, key int) {
	t.Helper()
	want, is := has[key]
	if v, there := x.Get(key); v != want || there != is {
		t.Errorf("P1301 Get(%d): %v, %v; want %v, %v", key, v, there, want, is)
	}
}

func expectFirst[V comparable](t *testing.T, x *tree.Tree[V], has map[int]V) {
	t.Helper()
	var want pair[V]
	if l := sorted(has, math.MinInt); len(l) > 0 {
		want = l[0]
	}
	if key, v, there := x.First(); key != want.key || v != want.v || there != (len(has) > 0) {
		t.Errorf("P1301 First: %d, %v, %v; want %v of %d keys", key, v, there, want, len(has))
	}
}

// expectHeight holds the height between that of the fullest tree of so many keys and that of the leanest.
func expectHeight[V any](t *testing.T, x *tree.Tree[V]) {
	t.Helper()
	h, n := x.Height(), x.Len()
	if h < 0 || h > 60 || leastKeys(h) > n || n > 1<<h-1 {
		t.Errorf("P1303 Height of %d keys: %d", n, h)
	}
}

// expectLight holds a tree against a map as far as costs little: what it tells without going over all keys, but for All.
func expectLight[V comparable](t *testing.T, x *tree.Tree[V], has map[int]V) {
	t.Helper()
	if x.Len() != len(has) {
		t.Errorf("P1301 Len: %d; want %d", x.Len(), len(has))
	}
	expectFirst(t, x, has)
	expectHeight(t, x)
	expectSeq(t, "All", x.All(), sorted(has, math.MinInt))
}

// expectTree holds all that a tree tells against a map, at each key, beside each, and at the edges.
func expectTree[V comparable](t *testing.T, x *tree.Tree[V], has map[int]V) {
	t.Helper()
	expectLight(t, x, has)
	keys := slices.Clone(edges)
	for key := range has {
		keys = append(keys, key-1, key, key+1) // it may wrap round: any key will do
	}
	for _, key := range keys {
		expectGet(t, x, has, key)
		expectSeq(t, fmt.Sprint("From ", key), x.From(key), sorted(has, key))
	}
}

func expectPut[V any](t *testing.T, x *tree.Tree[V], key int, v V, want bool) {
	t.Helper()
	if is := x.Put(key, v); is != want {
		t.Errorf("P1301 Put(%d): %v; want %v", key, is, want)
	}
}

func expectDrop[V any](t *testing.T, x *tree.Tree[V], key int, want bool) {
	t.Helper()
	if is := x.Drop(key); is != want {
		t.Errorf("P1301 Drop(%d): %v; want %v", key, is, want)
	}
}

// made is a tree of these keys, put in this order, each with ten times itself; and a map of them.
func made(keys ...int) (*tree.Tree[int], map[int]int) {
	x, has := tree.New[int](), map[int]int{}
	for _, key := range keys {
		x.Put(key, 10*key)
		has[key] = 10 * key
	}
	return x, has
}

// rising is 1 to n.
func rising(n int) []int {
	l := make([]int, n)
	for i := range l {
		l[i] = i + 1
	}
	return l
}

func falling(n int) []int {
	l := rising(n)
	slices.Reverse(l)
	return l
}

func shuffled(r *rand.Rand, n int) []int {
	l := rising(n)
	r.Shuffle(n, func(i, j int) { l[i], l[j] = l[j], l[i] })
	return l
}

// inward is 1, n, 2, n - 1 ..; outward the other way round.
func inward(n int) []int {
	l := make([]int, n)
	for i := range l {
		l[i] = 1 + i/2
		if i%2 == 1 {
			l[i] = n - i/2
		}
	}
	return l
}

func outward(n int) []int {
	l := inward(n)
	slices.Reverse(l)
	return l
}

// jumping goes through 1 to n in jumps; n + 1 must be prime.
func jumping(n int) []int {
	l := make([]int, n)
	for i := range l {
		l[i] = (i + 1) * 377 % (n + 1)
	}
	return l
}

// orders are rows of the keys 1 to n, each in another order; n + 1 must be prime.
func orders(n int) map[string][]int {
	return map[string][]int{
		"rising":  rising(n),
		"falling": falling(n),
		"inward":  inward(n),
		"outward": outward(n),
		"jumping": jumping(n),
		"chance":  shuffled(rand.New(rand.NewSource(13)), n),
	}
}

// orderings goes over all orders of 1 to n; the row is told anew each time.
func orderings(n int) iter.Seq[[]int] {
	return func(yield func([]int) bool) {
		var place func(l []int, k int) bool
		place = func(l []int, k int) bool {
			if k == len(l) {
				return yield(slices.Clone(l))
			}
			for i := k; i < len(l); i++ {
				l[k], l[i] = l[i], l[k]
				more := place(l, k+1)
				l[k], l[i] = l[i], l[k]
				if !more {
					return false
				}
			}
			return true
		}
		place(rising(n), 0)
	}
}

// lean is a row of keys that makes a tree of that height with as few keys as may be, its higher sides on the left: each root is put ahead of what hangs on it.
func lean(height int) []int {
	var level [][]int
	var lay func(height, first, deep int)
	lay = func(height, first, deep int) {
		if height <= 0 {
			return
		}
		if len(level) == deep {
			level = append(level, nil)
		}
		root := first + leastKeys(height-1)
		level[deep] = append(level[deep], root)
		lay(height-1, first, deep+1)
		lay(height-2, root+1, deep+1)
	}
	lay(height, 1, 0)
	return slices.Concat(level...)
}

// mirrored is the row with its higher sides on the right.
func mirrored(keys []int) []int {
	l := slices.Clone(keys)
	for i := range l {
		l[i] = len(keys) + 1 - l[i]
	}
	return l
}
