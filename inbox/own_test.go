package inbox_test

import (
	"slices"
	"testing"

	"exitwave/api"
)

// copied is t in memory of its own, with spare room behind each list, in which marks stand.
func copied(t api.Term) api.Term {
	if t.L == nil {
		return t
	}
	l := make([]api.Term, 0, len(t.L)+2)
	for _, x := range t.L {
		l = append(l, copied(x))
	}
	t.L = append(l, whole(77), atom("room"))[:len(l)]
	return t
}

// roomStands tells whether the marks that copied set still stand in the spare room of each list.
func roomStands(t api.Term) bool {
	if t.L == nil {
		return true
	}
	room := t.L[len(t.L):cap(t.L)]
	return len(room) >= 2 && alike(room[0], whole(77)) && alike(room[1], atom("room")) && !slices.ContainsFunc(t.L, func(x api.Term) bool { return !roomStands(x) })
}

// spoilt writes over each list of t, its spare room too.
func spoilt(t api.Term) {
	for _, x := range t.L {
		spoilt(x)
	}
	for i := range t.L[:cap(t.L)] {
		t.L[:cap(t.L)][i] = whole(-666)
	}
}

// deepOne is a term in which lists stand within lists; one list stands in it thrice.
func deepOne(n int64) api.Term {
	twice := list(whole(1), tuple(float(2), atom("a")))
	return tuple(whole(n), twice, fun(3, twice, list(twice)))
}

// What is handed in stays as it was, its spare room too, and is not kept (P2).
func TestP1201PutOwn(t *testing.T) {
	for _, w := range rights() {
		x := copied(w.term)
		b := filled(t, 0, x, x)
		if !alike(x, w.term) || !roomStands(x) {
			t.Errorf("P2 Put changed what it was given: %s", said(x))
		}
		spoilt(x)
		expectAll(t, b, w.term, w.term)
		expectNext(t, b, w.term)
		expectTake(t, b, w.term)
		expectDrop(t, b, always, w.term)
	}
}

// A Put that is refused changes nothing of what it was given, either.
func TestP1201RefusedOwn(t *testing.T) {
	b := made(t, 2)
	for _, w := range wrongs() {
		x := copied(w)
		b.Put(x)
		if !alike(x, w) && x.F == x.F || !roomStands(x) {
			t.Errorf("P2 Put changed what it was given: %s", said(x))
		}
	}
	x := copied(deepOne(1))
	expectPut(t, b, x, api.ErrLimit)
	if !alike(x, deepOne(1)) || !roomStands(x) {
		t.Errorf("P2 Put changed what it was given: %s", said(x))
	}
}

// What is told is the caller's own: by Next, to the function of Drop, by a sequence (P2).
func TestP1202ToldOwn(t *testing.T) {
	all := []api.Term{deepOne(1), deepOne(2), deepOne(3)}
	b := filled(t, 0, all...)
	seq := b.All()
	for range 2 {
		for range all {
			x, _ := b.Next()
			spoilt(x)
		}
		expectAll(t, b, all...)
		for _, x := range seq {
			spoilt(x)
		}
		expectAll(t, b, all...)
		b.Drop(func(x api.Term) bool {
			spoilt(x)
			return false
		})
		expectAll(t, b, all...)
		b.Rewind()
	}
	if l := told(t, seq); !alikeAll(l, all) {
		t.Errorf("P2 All: what was told and changed is told again: %s", said(l))
	}
	expectDrop(t, b, func(x api.Term) bool {
		second := x.L[0].N == 2
		spoilt(x)
		return second
	}, all[1])
}

// What is taken out is the caller's own, too: a sequence that was made earlier tells it as it was (P2, P7).
func TestP1202TakenOwn(t *testing.T) {
	all := []api.Term{deepOne(1), deepOne(2), deepOne(3)}
	b := filled(t, 2, all...)
	seq := b.All()
	x, _ := b.Take()
	spoilt(x)
	x, _ = b.Drop(always)
	spoilt(x)
	if l := told(t, seq); !alikeAll(l, all) {
		t.Errorf("P2 All: what was taken and changed is told so: %s", said(l))
	}
	expectAll(t, b, all[2])
}

// Terms that Next told stay as they are when the message is taken out, and what was told then changed.
func TestP1202ToldThen(t *testing.T) {
	b := filled(t, 0, deepOne(1), deepOne(2))
	first, _ := b.Next()
	taken, _ := b.Take()
	spoilt(taken)
	if !alike(first, deepOne(1)) {
		t.Errorf("P2 Next and Take share memory: %s", said(first))
	}
	var asked []api.Term
	dropped, _ := b.Drop(func(x api.Term) bool {
		asked = append(asked, x)
		return true
	})
	spoilt(dropped)
	if !alikeAll(asked, []api.Term{deepOne(2)}) {
		t.Errorf("P2 Drop and what it asks for share memory: %s", said(asked))
	}
}

// No two lists of one answer share memory, also where those that were handed in do (P2); nor do two answers.
func TestP1203Shared(t *testing.T) {
	x := deepOne(1)
	b := filled(t, 0, x, x, x, x)
	seq := b.All()
	var l []api.Term
	for range 2 {
		l = append(l, told(t, seq)...)
		l = append(l, told(t, b.All())...)
		for range 3 {
			y, _ := b.Next()
			l = append(l, y)
		}
		y, _ := b.Take()
		z, _ := b.Drop(func(x api.Term) bool {
			l = append(l, x)
			return true
		})
		l = append(l, y, z)
	}
	var lists [][]api.Term
	for _, y := range l {
		lists = listsOf(lists, y)
	}
	if len(lists) < 8*len(l)-8 {
		t.Fatalf("%d lists: too few to tell", len(lists))
	}
	for n, one := range lists {
		for i := range one {
			one[i].N = int64(n)
		}
	}
	for n, one := range lists {
		for _, y := range one {
			if y.N != int64(n) {
				t.Fatalf("P2: two lists that were told share memory")
			}
		}
	}
}

func listsOf(out [][]api.Term, x api.Term) [][]api.Term {
	if cap(x.L) > 0 {
		out = append(out, x.L[:cap(x.L)])
	}
	for _, y := range x.L {
		out = listsOf(out, y)
	}
	return out
}

// The spare room behind a list without elements is not told (P2).
func TestP1202NoSpare(t *testing.T) {
	x := list(times(3, whole(1))[:0]...)
	b := filled(t, 0, x, x)
	first, _ := b.Next()
	taken, _ := b.Take()
	dropped, _ := b.Drop(always)
	for _, y := range []api.Term{first, taken, dropped} {
		if cap(y.L) > 0 {
			t.Errorf("P2: the room of what was handed in is told: %v", y.L[:cap(y.L)])
		}
	}
}
