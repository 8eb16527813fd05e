package tree_test

import (
	"fmt"
	"iter"
	"math"
	"slices"
	"testing"

	"exitwave/tree"
)

// keysOf is what a sequence goes over.
func keysOf[V any](seq iter.Seq2[int, V]) []int {
	var l []int
	for key := range seq {
		l = append(l, key)
	}
	return l
}

func expectKeys[V any](t *testing.T, what string, seq iter.Seq2[int, V], want ...int) {
	t.Helper()
	if l := keysOf(seq); !slices.Equal(l, want) {
		t.Errorf("P1302 %s: %v; want %v", what, l, want)
	}
}

// From of a key that is there, of one between two, below the first, above the last.
func TestP1302From(t *testing.T) {
	x, _ := made(30, 10, 20, 40)
	for from, want := range map[int][]int{
		math.MinInt: {10, 20, 30, 40}, -10: {10, 20, 30, 40}, 0: {10, 20, 30, 40}, 9: {10, 20, 30, 40},
		10: {10, 20, 30, 40}, 11: {20, 30, 40}, 19: {20, 30, 40},
		20: {20, 30, 40}, 21: {30, 40}, 29: {30, 40},
		30: {30, 40}, 31: {40}, 39: {40},
		40: {40}, 41: nil, math.MaxInt: nil,
	} {
		expectKeys(t, fmt.Sprint("From ", from), x.From(from), want...)
	}
	expectKeys(t, "All", x.All(), 10, 20, 30, 40)
}

// From of each key and of each gap, of trees of every size and many shapes.
func TestP1302FromEach(t *testing.T) {
	for n := range 34 {
		for _, keys := range [][]int{rising(n), falling(n), inward(n), outward(n)} {
			x, has := tree.New[int](), map[int]int{}
			for _, key := range keys {
				x.Put(2*key, key)
				has[2*key] = key
			}
			expectTree(t, x, has)
		}
	}
}

func TestP1302FromEdges(t *testing.T) {
	x := tree.New[string]()
	x.Put(math.MaxInt, "most")
	expectKeys(t, "From the greatest", x.From(math.MaxInt), math.MaxInt)
	expectKeys(t, "From the least", x.From(math.MinInt), math.MaxInt)
	x.Put(math.MinInt, "least")
	expectKeys(t, "From the greatest", x.From(math.MaxInt), math.MaxInt)
	expectKeys(t, "From the least", x.From(math.MinInt), math.MinInt, math.MaxInt)
	expectKeys(t, "From one above the least", x.From(math.MinInt+1), math.MaxInt)
	expectKeys(t, "From 0", x.From(0), math.MaxInt)
	expectKeys(t, "All", x.All(), math.MinInt, math.MaxInt)
	x.Drop(math.MaxInt)
	expectKeys(t, "From the least", x.From(math.MinInt), math.MinInt)
	expectKeys(t, "From one above the least", x.From(math.MinInt+1))
}

// A tree without keys, and one that has none any more; what was made of it then stays without any.
func TestP1302Empty(t *testing.T) {
	never, gone := tree.New[string](), tree.New[string]()
	for key := range 10 {
		gone.Put(key, "a")
	}
	for key := range 10 {
		gone.Drop(key)
	}
	for _, x := range []*tree.Tree[string]{never, gone} {
		seqs := []iter.Seq2[int, string]{x.All()}
		for _, key := range edges {
			seqs = append(seqs, x.From(key))
		}
		for range 2 {
			for _, seq := range seqs {
				expectKeys(t, "of an empty tree", seq)
			}
			x.Put(0, "a")
			x.Put(math.MaxInt, "a")
		}
		expectKeys(t, "All", x.All(), 0, math.MaxInt)
	}
}

// A sequence may be left early at each place, and tells the same when it is ranged over again (P7).
func TestP1302Left(t *testing.T) {
	x, has := made(jumping(40)...)
	for _, from := range []int{math.MinInt, 1, 2, 17, 20, 40, 41} {
		seq, want := x.From(from), sorted(has, from)
		if from == math.MinInt {
			seq = x.All()
		}
		for stop := range want {
			var l []pair[int]
			for key, v := range seq {
				l = append(l, pair[int]{key, v})
				if len(l) > stop {
					break
				}
			}
			if !slices.Equal(l, want[:stop+1]) {
				t.Errorf("P1302 From(%d), left at %d: %v", from, stop, l)
			}
		}
		for range 3 {
			expectSeq(t, fmt.Sprint("again From ", from), seq, want)
		}
	}
	expectTree(t, x, has)
}

// No more is told once it was said that it is enough, wherever that was.
func TestP1302Enough(t *testing.T) {
	x, _ := made(rising(31)...)
	for enough := 1; enough <= 31; enough++ {
		for _, from := range []int{1, 5, 16, 31} {
			calls := 0
			x.From(from)(func(int, int) bool {
				calls++
				return calls < enough
			})
			if want := min(enough, 32-from); calls != want {
				t.Errorf("P1302 From(%d), enough behind %d: %d told", from, enough, calls)
			}
		}
	}
}

// One sequence ranged over inside itself, and two drawn side by side.
func TestP1302Nested(t *testing.T) {
	x, _ := made(rising(3)...)
	seq := x.All()
	var l []int
	for a := range seq {
		for b := range seq {
			l = append(l, 10*a+b)
		}
	}
	if !slices.Equal(l, []int{11, 12, 13, 21, 22, 23, 31, 32, 33}) {
		t.Errorf("P1302 All inside itself: %v", l)
	}
	one, stopOne := iter.Pull2(seq)
	defer stopOne()
	other, stopOther := iter.Pull2(seq)
	defer stopOther()
	one()
	for want := 1; want <= 3; want++ {
		if key, v, there := other(); key != want || v != 10*want || !there {
			t.Errorf("P1302 All: %d, %d, %v; want %d", key, v, there, want)
		}
	}
	if key, v, there := one(); key != 2 || v != 20 || !there {
		t.Errorf("P1302 All: %d, %d, %v; want 2", key, v, there)
	}
}

// change is one thing that may be done to a tree.
type change struct {
	name string
	do   func(x *tree.Tree[int])
}

func changes() []change {
	l := []change{
		{"all gone", func(x *tree.Tree[int]) {
			for x.Len() > 0 {
				key, _, _ := x.First()
				x.Drop(key)
			}
		}},
		{"many more", func(x *tree.Tree[int]) {
			for key := -50; key < 100; key++ {
				x.Put(key, -key)
			}
		}},
		{"twin", func(x *tree.Tree[int]) { x.Twin().Put(3, 1) }},
	}
	for key := range 20 {
		l = append(l,
			change{fmt.Sprint("put ", key), func(x *tree.Tree[int]) { x.Put(key, -1) }},
			change{fmt.Sprint("drop ", key), func(x *tree.Tree[int]) { x.Drop(key) }})
	}
	return l
}

// A sequence goes over what it was made of, as that was then (P7): the tree is changed behind that.
func TestP1302Then(t *testing.T) {
	for _, from := range []int{math.MinInt, 0, 5, 9, 18, 19} {
		for _, c := range changes() {
			x, has := made(8, 4, 12, 2, 6, 10, 14, 16, 18)
			all, some := x.All(), x.From(from)
			c.do(x)
			for range 2 {
				expectSeq(t, "All ahead of "+c.name, all, sorted(has, math.MinInt))
				expectSeq(t, fmt.Sprint("From ", from, " ahead of ", c.name), some, sorted(has, from))
				c.do(x)
			}
		}
	}
}

// The tree is changed while sequences go over it, at each place.
func TestP1302Meanwhile(t *testing.T) {
	for _, from := range []int{math.MinInt, 7, 8} {
		for _, c := range changes() {
			for place := range 6 {
				x, has := made(8, 4, 12, 2, 6, 10, 14, 16, 18)
				seq := x.From(from)
				var l []pair[int]
				for key, v := range seq {
					if len(l) == place {
						c.do(x)
					}
					l = append(l, pair[int]{key, v})
				}
				if !slices.Equal(l, sorted(has, from)) {
					t.Errorf("P7 From(%d), %s meanwhile at %d: %v", from, c.name, place, l)
				}
				expectSeq(t, "again", seq, sorted(has, from))
			}
		}
	}
}

// Each key that is told is dropped then, or put anew, from within.
func TestP1302Within(t *testing.T) {
	x, has := made(rising(100)...)
	seq := x.All()
	for key := range seq {
		expectDrop(t, x, key, true)
		expectPut(t, x, -key, key, true)
	}
	expectSeq(t, "All", seq, sorted(has, math.MinInt))
	want := map[int]int{}
	for key := range has {
		want[-key] = key
	}
	expectTree(t, x, want)
}

// One sequence of each state through which a tree went: none is told what came later.
func TestP1302States(t *testing.T) {
	x, has := tree.New[int](), map[int]int{}
	var seqs []iter.Seq2[int, int]
	var wants [][]pair[int]
	note := func() {
		seqs = append(seqs, x.All(), x.From(30))
		wants = append(wants, sorted(has, math.MinInt), sorted(has, 30))
	}
	for _, key := range jumping(60) {
		note()
		x.Put(key, key)
		has[key] = key
	}
	for _, key := range inward(60) {
		note()
		x.Put(key, -key)
		has[key] = -key
	}
	for _, key := range outward(60) {
		note()
		x.Drop(key)
		delete(has, key)
	}
	note()
	for n, seq := range seqs {
		expectSeq(t, fmt.Sprint("state ", n), seq, wants[n])
	}
}
