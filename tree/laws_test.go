package tree_test

import (
	"iter"
	"maps"
	"math"
	"math/rand"
	"slices"
	"testing"

	"exitwave/tree"
)

// stretch is a way to draw keys by chance: few, so that they meet; many; far apart; at the ends.
func stretch(r *rand.Rand) func() int {
	return []func() int{
		func() int { return r.Intn(12) },
		func() int { return r.Intn(60) - 30 },
		func() int { return r.Intn(400) },
		func() int { return int(r.Uint64()) },
		func() int { return math.MaxInt - r.Intn(20) },
		func() int { return math.MinInt + r.Intn(20) },
		func() int { return edges[r.Intn(len(edges))] },
	}[r.Intn(7)]
}

// Runs that are made by chance, held against a map behind each step; a twin and a sequence of an earlier state are held against what that was.
func TestP1304ByChance(t *testing.T) {
	r := rand.New(rand.NewSource(1304))
	for range 150 {
		x, has := tree.New[int](), map[int]int{}
		twin, kept, seq := x.Twin(), maps.Clone(has), x.All()
		draw, likely := stretch(r), 2+r.Intn(7)
		for n := range 200 {
			if n%50 == 49 {
				draw, likely = stretch(r), 1+r.Intn(9)
			}
			if r.Intn(40) == 0 {
				twin, kept, seq = x.Twin(), maps.Clone(has), x.All()
			}
			key := draw()
			_, is := has[key]
			if r.Intn(10) < likely {
				expectPut(t, x, key, n, !is)
				has[key] = n
			} else {
				expectDrop(t, x, key, is)
				delete(has, key)
			}
			expectLight(t, x, has)
			from := draw()
			expectSeq(t, "From", x.From(from), sorted(has, from))
			expectGet(t, x, has, from)
			expectGet(t, x, has, key)
		}
		expectTree(t, x, has)
		expectTree(t, twin, kept)
		expectSeq(t, "All of then", seq, sorted(kept, math.MinInt))
		if t.Failed() {
			return
		}
	}
}

// Whatever order keys come and go in, trees with the same keys tell the same, but for Height.
func TestP1304EveryOrder(t *testing.T) {
	want := map[int]int{}
	for _, key := range rising(6) {
		want[key] = 10 * key
	}
	for keys := range orderings(6) {
		x, _ := made(keys...)
		expectTree(t, x, want)
		if t.Failed() {
			t.Fatalf("Put %v", keys)
		}
	}
}

// The same keys by many ways: others come and go in between, some are put more than once.
func TestP1304Ways(t *testing.T) {
	r := rand.New(rand.NewSource(4))
	for range 100 {
		n := 1 + r.Intn(80)
		has := map[int]int{}
		x := tree.New[int]()
		others := shuffled(r, n)
		for i, key := range shuffled(r, n) {
			x.Put(1000+others[i], 1)
			if r.Intn(2) == 0 {
				x.Put(3*key, 0)
			}
			x.Put(3*key+1, 2)
			x.Put(3*key, key)
			has[3*key] = key
		}
		for _, key := range shuffled(r, n) {
			x.Drop(1000 + key)
			x.Drop(3*key + 1)
		}
		expectTree(t, x, has)
		if t.Failed() {
			return
		}
	}
}

// Asking changes nothing: however often a tree is asked meanwhile, it tells the same.
func TestP1304Asked(t *testing.T) {
	asked, _ := made(jumping(60)...)
	quiet, has := made(jumping(60)...)
	for range 3 {
		expectTree(t, asked, has)
		next, stop := iter.Pull2(asked.From(12))
		next()
		stop()
		asked.Twin().Drop(5)
	}
	if asked.Height() != quiet.Height() || !slices.Equal(told(asked.All()), told(quiet.All())) {
		t.Errorf("P1304: a tree that was asked tells another thing")
	}
}

// The same calls in the same order answer the same, Height too (P3).
func TestP1304Again(t *testing.T) {
	run := func() []int {
		r := rand.New(rand.NewSource(3))
		x := tree.New[int]()
		var l []int
		for n := range 2000 {
			if key := r.Intn(300); r.Intn(3) > 0 {
				x.Put(key, n)
			} else {
				x.Drop(key)
			}
			key, v, _ := x.First()
			l = append(l, x.Len(), x.Height(), key, v)
		}
		for key, v := range x.All() {
			l = append(l, key, v)
		}
		return l
	}
	first := run()
	for range 5 {
		if !slices.Equal(run(), first) {
			t.Fatalf("P3: another answer")
		}
	}
}
