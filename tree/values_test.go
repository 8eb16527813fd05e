package tree_test

import (
	"math"
	"runtime"
	"slices"
	"strings"
	"sync"
	"testing"
	"weak"

	"exitwave/api"
	"exitwave/tree"
)

// played puts values, puts others in their place, and drops them, and holds the tree against a map behind each step.
func played[V comparable](t *testing.T, values ...V) {
	t.Helper()
	x, has := tree.New[V](), map[int]V{}
	expectTree(t, x, has)
	for n, v := range values {
		key := (n*7 + 3) % 11
		_, is := has[key]
		expectPut(t, x, key, v, !is)
		has[key] = v
		expectTree(t, x, has)
	}
	twin := x.Twin()
	for n, v := range values {
		key := n % 11
		_, is := has[key]
		expectPut(t, twin, key, v, !is)
	}
	for n := range 11 {
		_, is := has[n]
		expectDrop(t, x, n, is)
		delete(has, n)
		expectTree(t, x, has)
	}
	expectPut(t, x, 0, values[0], true)
	expectTree(t, x, map[int]V{0: values[0]})
}

func TestP1301Types(t *testing.T) {
	one, two := new(int), new(int)
	type wide struct {
		name string
		n    [40]int
		half api.Half
	}
	played(t, 1, 0, -1, math.MaxInt, math.MinInt)
	played(t, "a", "", "\x00", strings.Repeat("b", 1000))
	played(t, true, false, false, true)
	played(t, 1.5, 0, math.Inf(1), -2)
	played(t, 1+2i, 0)
	played(t, struct{}{}, struct{}{}, struct{}{})
	played(t, [3]int{1, 2, 3}, [3]int{}, [3]int{0, 0, 1})
	played(t, wide{"a", [40]int{1}, api.Half{Pid: 1}}, wide{}, wide{name: "b"})
	played(t, one, nil, two, one)
	played[any](t, 1, "a", nil, 2.5, one, api.OK)
	played[error](t, check{}, nil, check{"a"})
	played(t, api.Half{Pid: 2, State: 1, Id: 3}, api.Half{}, api.Half{Pid: 4})
	played(t, api.Mon{Ref: 1, Pid: 2, Name: "a"}, api.Mon{})
	played(t, make(chan int), nil, make(chan int))
	played(t, tree.New[int](), nil, tree.New[int]())
}

// check is an error of these tests' own.
type check struct{ what string }

func (c check) Error() string { return c.what }

// Beside a false there is the zero value of the type, whatever it is (P4).
func expectZero[V any](t *testing.T, v V, isZero func(V) bool) {
	t.Helper()
	x := tree.New[V]()
	look := func() {
		t.Helper()
		if got, there := x.Get(1); there || !isZero(got) {
			t.Errorf("P4 Get: %v, %v", got, there)
		}
	}
	look()
	x.Put(2, v)
	look()
	x.Put(1, v)
	x.Drop(1)
	look()
	x.Drop(2)
	if key, got, there := x.First(); key != 0 || there || !isZero(got) {
		t.Errorf("P4 First: %d, %v, %v", key, got, there)
	}
}

func TestP1301Zero(t *testing.T) {
	expectZero(t, 1.5, func(f float64) bool { return math.Float64bits(f) == 0 })
	expectZero(t, math.Copysign(0, -1), func(f float64) bool { return math.Float64bits(f) == 0 })
	expectZero(t, []int{1}, func(l []int) bool { return len(l) == 0 })
	expectZero(t, map[int]int{1: 1}, func(m map[int]int) bool { return m == nil })
	expectZero(t, func() int { return 1 }, func(f func() int) bool { return f == nil })
	expectZero(t, any("a"), func(x any) bool { return x == nil })
	expectZero(t, "a", func(s string) bool { return s == "" })
	expectZero(t, api.Term{Kind: api.KTuple, L: []api.Term{{}}}, func(x api.Term) bool { return x.Kind == 0 && x.N == 0 && x.S == "" && len(x.L) == 0 })
}

// Values that cannot be compared, and floats that equal nothing or another one: they come out as they went in.
func TestP1301AsTheyAre(t *testing.T) {
	lists := tree.New[[]int]()
	funs := tree.New[func() int]()
	floats := tree.New[float64]()
	bits := []uint64{0, 1 << 63, 0x7ff8000000000001, 0xfff0000000000000, 1}
	for n, b := range bits {
		lists.Put(n, rising(n))
		funs.Put(n, func() int { return n })
		floats.Put(n, math.Float64frombits(b))
	}
	floats.Put(1, math.Float64frombits(bits[0])) // the other zero, and back again
	floats.Put(1, math.Float64frombits(bits[1]))
	for n, l := range lists.All() {
		f, is := funs.Get(n)
		x, there := floats.Get(n)
		if !slices.Equal(l, rising(n)) || !is || f() != n || !there || math.Float64bits(x) != bits[n] {
			t.Errorf("P1301: of key %d: %v, %v, %x", n, l, is, math.Float64bits(x))
		}
	}
	for n, f := range funs.From(2) {
		if f() != n {
			t.Errorf("P1302: of key %d: %d", n, f())
		}
	}
}

// A value that is told is a copy: who changes it does not change the tree.
func TestP1301Copies(t *testing.T) {
	x, has := tree.New[[3]int](), map[int][3]int{}
	for key := range 9 {
		v := [3]int{key}
		x.Put(key, v)
		has[key] = v
		v[0] = -1
	}
	for _, v := range x.All() {
		v[0] = -1
	}
	v, _ := x.Get(4)
	v[1] = -1
	_, v, _ = x.First()
	v[2] = -1
	expectTree(t, x, has)
}

// What was dropped, or put over, is not kept: nothing but what keys have is reached from a tree.
func TestP1301NotKept(t *testing.T) {
	x := tree.New[*[100]int]()
	seen := map[int]weak.Pointer[[100]int]{}
	for key := range 40 {
		v := new([100]int)
		x.Put(key, v)
		seen[key] = weak.Make(v)
	}
	for n, key := range inward(39) {
		if n%2 == 0 {
			x.Drop(key)
		} else {
			x.Put(key, nil)
		}
		runtime.GC()
		if seen[key].Value() != nil {
			t.Errorf("what key %d had is kept", key)
		}
	}
	if seen[0].Value() == nil {
		t.Errorf("what key 0 has is gone")
	}
	runtime.KeepAlive(x)
}

// A tree with few keys through which many went keeps no room for them; nor do twins that are gone.
func TestP1301Room(t *testing.T) {
	inUse := func() int64 {
		var m runtime.MemStats
		runtime.GC()
		runtime.ReadMemStats(&m)
		return int64(m.HeapAlloc)
	}
	before := inUse()
	x := tree.New[[8]int]()
	for n := range 1 << 16 {
		x.Put(n, [8]int{n})
	}
	for n := range 1 << 16 {
		if n%(1<<12) != 0 {
			x.Drop(n)
		}
	}
	for n := range 1 << 14 {
		x = x.Twin()
		x.Put(0, [8]int{n})
	}
	if more := inUse() - before; more > 1<<19 || x.Len() != 16 {
		t.Errorf("a tree of %d keys keeps %d bytes", x.Len(), more)
	}
	runtime.KeepAlive(x)
}

// Twins are trees apart (P7): each may be used by a goroutine of its own.
func TestP1302TwinsAtOnce(t *testing.T) {
	x, _ := made(rising(200)...)
	var all sync.WaitGroup
	sums := make([]int, 8)
	for n := range sums {
		twin := x.Twin()
		all.Go(func() {
			for key := 1; key <= 200; key++ {
				if key%(n+2) == 0 {
					twin.Drop(key)
				} else {
					twin.Put(key, n)
				}
			}
			for key := range twin.All() {
				sums[n] += key
			}
		})
	}
	all.Wait()
	for n, sum := range sums {
		want := 0
		for key := 1; key <= 200; key++ {
			if key%(n+2) != 0 {
				want += key
			}
		}
		if sum != want {
			t.Errorf("P1302: a twin's keys sum to %d; want %d", sum, want)
		}
	}
}
