package links_test

import (
	"math/rand"
	"slices"
	"testing"

	"exitwave/api"
	"exitwave/links"
)

// Set over each of the three: Linked, Id 0; an acknowledgement of then removes nothing.
func TestP1403Set(t *testing.T) {
	for _, s := range standings() {
		for range 2 {
			s.table.Set(10)
			expectTable(t, s.table, with(s.has, linked(10))...)
		}
		expectAck(t, s.table, 10, 3, false)
		expectLink(t, s.table, 10, false)
		expectTable(t, s.table, with(s.has, linked(10))...)
		expectExit(t, s.table, 10, true)
		expectTable(t, s.table, without(s.has, 10)...)
		if t.Failed() {
			t.Fatalf("P1403 Set at %s", s.name)
		}
	}
}

// Set tells no identifier, and uses none up.
func TestP1403SetIdentifiers(t *testing.T) {
	x := links.New()
	for id := 1; id <= 20; id++ {
		for pid := 1; pid <= id; pid++ {
			x.Set(pid)
		}
		expectUnlink(t, x, id, id)
	}
}

// All tells by Pid, whatever order half-links came in, and however they stand.
func TestP1403All(t *testing.T) {
	r := rand.New(rand.NewSource(1403))
	for n := range 60 {
		x, b := links.New(), newBook()
		for _, i := range r.Perm(n) {
			pid := 1 + i*i
			x.Link(pid)
			b.link(pid)
			if r.Intn(3) == 0 {
				x.Unlink(pid)
				b.unlink(pid)
			}
			expectTable(t, x, b.all()...)
		}
		if t.Failed() {
			return
		}
	}
}

// What All tells is the caller's own, its spare room too (P2); and it stays as it was.
func TestP1403AllOwn(t *testing.T) {
	for n := range 20 {
		x, b := links.New(), newBook()
		for pid := 1; pid <= n; pid++ {
			x.Set(pid)
			b.link(pid)
		}
		first, second := x.All(), x.All()
		spoil(first)
		expectTable(t, x, b.all()...)
		if !slices.Equal(second, b.all()) {
			t.Errorf("P2: two answers of All share memory: %v", second)
		}
		want := slices.Clone(second)
		for pid := 1; pid <= n; pid++ {
			x.Unlink(pid)
		}
		x.Set(n + 1)
		x.Pop()
		if !slices.Equal(second, want) {
			t.Errorf("P2: what All told changed later: %v; want %v", second, want)
		}
	}
}

// spoil writes over a list, its spare room too.
func spoil(l []api.Half) {
	l = l[:cap(l)]
	for i := range l {
		l[i] = unlinking(666, 666)
	}
}

// Pop takes the one with the least Pid, whether Linked or Unlinking, till none is left; and then it tells none.
func TestP1403Pop(t *testing.T) {
	r := rand.New(rand.NewSource(1404))
	for range 50 {
		x, b := links.New(), newBook()
		for range 30 {
			pid := 1 + r.Intn(40)
			x.Link(pid)
			b.link(pid)
			if r.Intn(2) == 0 {
				x.Unlink(pid)
				b.unlink(pid)
			}
		}
		for len(b.has) > 0 {
			want, _ := b.pop()
			expectPop(t, x, want)
			expectNone(t, x, want.Pid)
			expectTable(t, x, b.all()...)
		}
		for range 2 {
			expectPop(t, x, api.Half{})
			expectTable(t, x)
		}
		if t.Failed() {
			return
		}
	}
}

// What was popped may come anew: a Pop behind it takes the least of then.
func TestP1403PopAnew(t *testing.T) {
	x := links.New()
	x.Set(5)
	x.Set(9)
	expectPop(t, x, linked(5))
	x.OnLink(3)
	x.Set(12)
	expectPop(t, x, linked(3))
	expectUnlink(t, x, 9, 1)
	expectPop(t, x, unlinking(9, 1))
	expectAck(t, x, 9, 1, false)
	expectLink(t, x, 5, true)
	expectPop(t, x, linked(5))
	expectPop(t, x, linked(12))
	expectPop(t, x, api.Half{})
}

// Len behind each call that brings or takes one, and behind those that do not.
func TestP1403Len(t *testing.T) {
	x := links.New()
	expect := func(what string, want int) {
		t.Helper()
		if n := x.Len(); n != want {
			t.Errorf("P1403 Len behind %s: %d; want %d", what, n, want)
		}
	}
	expect("New", 0)
	x.Link(1)
	expect("Link", 1)
	x.Link(1)
	expect("Link again", 1)
	x.OnLink(2)
	expect("OnLink", 2)
	x.OnLink(1)
	expect("OnLink again", 2)
	x.Set(3)
	expect("Set", 3)
	x.Set(3)
	expect("Set again", 3)
	x.Unlink(1)
	expect("Unlink", 3)
	x.OnUnlink(1)
	expect("OnUnlink of an Unlinking one", 3)
	x.OnExit(1)
	expect("OnExit of an Unlinking one", 3)
	x.OnAck(1, 2)
	expect("OnAck of another identifier", 3)
	x.OnAck(1, 1)
	expect("OnAck", 2)
	x.OnUnlink(2)
	expect("OnUnlink", 1)
	x.OnExit(3)
	expect("OnExit", 0)
	x.OnExit(3)
	x.OnUnlink(3)
	x.OnAck(3, 1)
	x.Unlink(3)
	expect("those of none", 0)
	x.Link(4)
	x.Unlink(4)
	x.Set(4)
	expect("Set of an Unlinking one", 1)
	x.Unlink(4)
	x.Link(4)
	expect("Link of an Unlinking one", 1)
	x.Pop()
	expect("Pop", 0)
	x.Pop()
	expect("Pop of none", 0)
}

// Asking changes nothing.
func TestP1403Asked(t *testing.T) {
	for _, s := range standings() {
		for range 3 {
			for _, pid := range slices.Concat(pids, strange, []int{8, 9, 10, 11, 12}) {
				s.table.Get(pid)
			}
			s.table.All()
			s.table.Len()
			expectTable(t, s.table, s.has...)
		}
	}
}
