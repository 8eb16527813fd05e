package inbox_test

import (
	"iter"
	"testing"

	"exitwave/api"
)

func TestP1203All(t *testing.T) {
	for size := range 6 {
		for looked := 0; looked <= size; looked++ {
			all := atoms("abcdef")[:size]
			b := filled(t, looked, all...)
			expectAll(t, b, all...)
			expectRest(t, b, all[looked:]...)
			expectAll(t, b, all...)
		}
	}
}

// A sequence may be left early at each place, and tells the same when it is ranged over again (P7).
func TestP1203AllLeft(t *testing.T) {
	b := filled(t, 1, atoms("abcd")...)
	seq := b.All()
	for stop := range 4 {
		n := 0
		for place, x := range seq {
			if place != n || !alike(x, atoms("abcd")[n]) {
				t.Errorf("P1203 All: %d, %s; want %d", place, said(x), n)
			}
			n++
			if place == stop {
				break
			}
		}
		if n != stop+1 {
			t.Errorf("P1203 All, left at %d: %d told", stop, n)
		}
	}
	for range 3 {
		if l := told(t, seq); !alikeAll(l, atoms("abcd")) {
			t.Errorf("P1203 All again: %s", said(l))
		}
	}
	expectRest(t, b, atoms("bcd")...)
}

// No more is told once it was said that it is enough.
func TestP1203AllEnough(t *testing.T) {
	b := filled(t, 0, atoms("abc")...)
	calls := 0
	b.All()(func(int, api.Term) bool {
		calls++
		return false
	})
	if calls != 1 {
		t.Errorf("P1203 All: %d told behind false; want 1", calls)
	}
}

// One sequence ranged over inside itself, and two drawn side by side.
func TestP1203AllNested(t *testing.T) {
	b := filled(t, 0, atoms("abc")...)
	seq := b.All()
	s := ""
	for _, x := range seq {
		for _, y := range seq {
			s += x.S + y.S + " "
		}
	}
	if s != "aa ab ac ba bb bc ca cb cc " {
		t.Errorf("P1203 All inside itself: %s", s)
	}
	one, stopOne := iter.Pull2(seq)
	defer stopOne()
	other, stopOther := iter.Pull2(seq)
	defer stopOther()
	one()
	for want := range 3 {
		if place, x, there := other(); !there || place != want || !alike(x, atoms("abc")[want]) {
			t.Errorf("P1203 All: %d, %s, %v; want %d", place, said(x), there, want)
		}
	}
	if place, x, there := one(); !there || place != 1 || x.S != "b" {
		t.Errorf("P1203 All: %d, %s, %v; want 1, b", place, said(x), there)
	}
}

// A sequence goes over what it was made of, as that was then (P7).
func TestP1203AllThen(t *testing.T) {
	b := filled(t, 2, atoms("abcd")...)
	then := b.All()
	put(t, b, atom("e"))
	withE := b.All()
	expectTake(t, b, atom("b"))
	withoutB := b.All()
	expectDrop(t, b, is(atom("a")), atom("a"))
	expectNext(t, b, atom("c"))
	drain(b)
	put(t, b, atoms("xyz")...)
	for range 2 {
		for want, seq := range map[string]iter.Seq2[int, api.Term]{"abcd": then, "abcde": withE, "acde": withoutB, "xyz": b.All()} {
			if l := told(t, seq); !alikeAll(l, atoms(want)) {
				t.Errorf("P7 All: %s; want %s", said(l), want)
			}
		}
	}
	none := made(t, 10)
	seq := none.All()
	put(t, none, atom("a"))
	if l := told(t, seq); len(l) != 0 {
		t.Errorf("P7 All of an empty box: %s", said(l))
	}
}

// The box is changed while a sequence goes over it.
func TestP1203AllMeanwhile(t *testing.T) {
	changes := map[string]func(b boxed){
		"put":    func(b boxed) { b.Put(atom("n")) },
		"first":  func(b boxed) { b.Drop(always) },
		"taken":  func(b boxed) { b.Next(); b.Take() },
		"rewind": func(b boxed) { b.Rewind() },
		"all gone": func(b boxed) {
			for b.Len() > 0 {
				b.Drop(always)
			}
		},
	}
	for name, change := range changes {
		b := filled(t, 2, atoms("abcd")...)
		var l []api.Term
		for place, x := range b.All() {
			if place != len(l) {
				t.Errorf("P7 All, %s meanwhile: place %d; want %d", name, place, len(l))
			}
			l = append(l, x)
			change(b)
		}
		if !alikeAll(l, atoms("abcd")) {
			t.Errorf("P7 All, %s meanwhile: %s", name, said(l))
		}
	}
}

// boxed is what the changes of a box need.
type boxed interface {
	Put(api.Term) api.Errno
	Next() (api.Term, bool)
	Take() (api.Term, api.Errno)
	Rewind()
	Drop(func(api.Term) bool) (api.Term, bool)
	Len() int
}
