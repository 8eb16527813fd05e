package inbox_test

import (
	"math/rand"
	"runtime"
	"slices"
	"testing"

	"exitwave/api"
	"exitwave/inbox"
)

// shelf says chapter 12 once more: a list, and a place as a number.
type shelf struct {
	list  []api.Term
	place int
	most  int
}

func (s *shelf) put(x api.Term) api.Errno {
	if counted(append(slices.Clone(s.list), x)) > s.most {
		return api.ErrLimit
	}
	s.list = append(s.list, x)
	return api.OK
}

func (s *shelf) next() (api.Term, bool) {
	if s.place == len(s.list) {
		return api.Term{}, false
	}
	s.place++
	return s.list[s.place-1], true
}

func (s *shelf) take() (api.Term, api.Errno) {
	if s.place == 0 {
		return api.Term{}, api.ErrNone
	}
	x := s.list[s.place-1]
	s.list = without(s.list, s.place-1)
	s.place = 0
	return x, api.OK
}

func (s *shelf) drop(which func(api.Term) bool) (api.Term, bool) {
	n := slices.IndexFunc(s.list, which)
	if n < 0 {
		return api.Term{}, false
	}
	x := s.list[n]
	s.list = without(s.list, n)
	if n < s.place {
		s.place--
	}
	return x, true
}

// someTerm makes one by chance, its number told by its first element.
func someTerm(r *rand.Rand, n int) api.Term {
	l := []api.Term{whole(int64(n))}
	for range r.Intn(4) {
		l = append(l, []api.Term{float(minus), ref(5), fun(2, atom("c")), list(whole(1), list()), pid(3), tuple()}[r.Intn(6)])
	}
	return tuple(l...)
}

// step does one thing by chance to both.
func step(t *testing.T, r *rand.Rand, b *inbox.Box, s *shelf, n, likely int) {
	t.Helper()
	switch k := r.Intn(20); {
	case k < likely:
		x := someTerm(r, n)
		expectPut(t, b, x, s.put(x))
	case k < 13:
		x, there := b.Next()
		if w, is := s.next(); there != is || !alike(x, w) {
			t.Fatalf("P1202 Next: %s, %v; want %s, %v", said(x), there, said(w), is)
		}
	case k < 16:
		x, e := b.Take()
		if w, is := s.take(); e != is || !alike(x, w) {
			t.Fatalf("P1202 Take: %s, %v; want %s, %v", said(x), e, said(w), is)
		}
	case k < 17:
		b.Rewind()
		s.place = 0
	default:
		m := int64(2 + r.Intn(9))
		which := func(x api.Term) bool { return x.L[0].N%m == 1 }
		x, there := b.Drop(which)
		if w, is := s.drop(which); there != is || !alike(x, w) {
			t.Fatalf("P1203 Drop: %s, %v; want %s, %v", said(x), there, said(w), is)
		}
	}
}

// Runs that are made by chance, held against the second telling behind each step.
func TestP1204ByChance(t *testing.T) {
	r := rand.New(rand.NewSource(1204))
	for range 300 {
		most := 10 + r.Intn(300)
		b, s := made(t, most), &shelf{most: most}
		likely := 2 + r.Intn(9)
		for n := range 200 {
			if n%40 == 39 {
				likely = 2 + r.Intn(9)
			}
			step(t, r, b, s, n, likely)
			expectAll(t, b, s.list...)
			if t.Failed() {
				return
			}
		}
	}
}

// Behind Next that told true as often as k and Take the k-th one of all is gone, and no other one; whatever was done ahead of that.
func TestP1204KthGone(t *testing.T) {
	r := rand.New(rand.NewSource(1205))
	for range 300 {
		b, s := made(t, 500), &shelf{most: 500}
		for n := range 60 {
			step(t, r, b, s, n, 9)
		}
		all := told(t, b.All())
		if len(all) == 0 {
			continue
		}
		b.Rewind()
		k := 1 + r.Intn(len(all))
		expectNext(t, b, all[:k]...)
		expectTake(t, b, all[k-1])
		expectAll(t, b, without(all, k-1)...)
		if t.Failed() {
			return
		}
	}
}

// A message that is put is looked at behind all that were there.
func TestP1204PutLast(t *testing.T) {
	r := rand.New(rand.NewSource(1206))
	for range 300 {
		b, s := made(t, 1000), &shelf{most: 1000}
		for n := range 40 {
			step(t, r, b, s, n, 9)
		}
		put(t, b, atom("new"))
		expectRest(t, b, append(slices.Clone(s.list[s.place:]), atom("new"))...)
		expectTake(t, b, atom("new"))
		expectAll(t, b, s.list...)
		if t.Failed() {
			return
		}
	}
}

// The same calls in the same order answer the same (P3).
func TestP1204Again(t *testing.T) {
	run := func() []api.Term {
		r := rand.New(rand.NewSource(3))
		b, s := made(t, 400), &shelf{most: 400}
		for n := range 500 {
			step(t, r, b, s, n, 8)
		}
		return told(t, b.All())
	}
	first := run()
	for range 5 {
		if !alikeAll(run(), first) {
			t.Fatalf("P3: another answer")
		}
	}
}

// Long boxes: the first one of many is taken again and again, from ahead and from the end.
func TestP1204Long(t *testing.T) {
	const long = 1 << 18
	b := made(t, 2*long)
	for n := range long {
		put(t, b, whole(int64(n)))
	}
	expectPut(t, b, whole(0), api.ErrLimit)
	for n := range long / 2 {
		expectNext(t, b, whole(int64(2*n)))
		expectTake(t, b, whole(int64(2*n)))
		expectDrop(t, b, always, whole(int64(2*n+1)))
		put(t, b, whole(int64(long+2*n)), whole(int64(long+2*n+1)))
		if t.Failed() {
			return
		}
	}
	if b.Len() != long || b.Words() != 2*long {
		t.Errorf("P1201: %d messages, %d words; want %d, %d", b.Len(), b.Words(), long, 2*long)
	}
	for n := range long {
		expectNext(t, b, whole(int64(long+n)))
	}
	expectNoNext(t, b)
	expectTake(t, b, whole(2*long-1))
}

// inUse is how many bytes are in use.
func inUse() int {
	var m runtime.MemStats
	runtime.GC()
	runtime.ReadMemStats(&m)
	return int(m.HeapAlloc)
}

// Messages that are gone are not kept.
func TestP1204NotKept(t *testing.T) {
	before := inUse()
	b := made(t, wide)
	put(t, b, atom("stays"))
	for range 20 {
		for n := range 1 << 12 {
			put(t, b, deepOne(int64(n)))
		}
		for range 1 << 11 {
			b.Next()
			b.Next()
			b.Take()
			b.Drop(func(x api.Term) bool { return x.Kind == api.KTuple })
		}
	}
	expectAll(t, b, atom("stays"))
	if more := inUse() - before; more > 1<<20 {
		t.Errorf("a box with one small message keeps %d bytes", more)
	}
	runtime.KeepAlive(b)
}
