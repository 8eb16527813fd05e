package mons_test

import (
	"math/rand"
	"testing"

	"exitwave/api"
	"exitwave/mons"
)

// once counts, for one reference, how often OnDown and Demonitor told true since its last Watch.
type once struct {
	ref, watched, told int
	asked              bool // one of them was called since
	want               api.Mon
}

// do does one of the calls, by its number; what it does not know is a call that is not of origins.
func (o *once) do(t *testing.T, x *mons.Table, call int) {
	t.Helper()
	switch call {
	case 0:
		m := origin(o.ref, o.watched+1, "n")
		if x.Watch(m.Ref, m.Pid, m.Name) == api.OK {
			o.watched, o.told, o.asked, o.want = o.watched+1, 0, false, m
		}
	case 1:
		o.hear(t, x.OnDown)
	case 2:
		o.hear(t, x.Demonitor)
	case 3:
		x.OnMonitor(o.ref, 1)
	case 4:
		x.OnDemonitor(o.ref)
	case 5:
		x.PopTarget()
	}
}

func (o *once) hear(t *testing.T, call func(int) (api.Mon, bool)) {
	t.Helper()
	o.asked = true
	m, is := call(o.ref)
	if !is {
		if m != (api.Mon{}) {
			t.Errorf("P4: %v, false", m)
		}
		return
	}
	o.told++
	if o.watched == 0 || o.told > 1 || m != o.want {
		t.Errorf("P1504 of %d: %v told the %dth time behind the %dth Watch; want %v", o.ref, m, o.told, o.watched, o.want)
	}
}

// Every order of seven calls: from each Watch on OnDown and Demonitor together tell true once at most; and just once, as soon as one was called.
func TestP1504EveryOrder(t *testing.T) {
	const calls, length = 6, 7
	many := 1
	for range length {
		many *= calls
	}
	for n := range many {
		x, o := mons.New(), &once{ref: 5}
		x.Watch(4, 1, "")
		x.Watch(6, 1, "")
		rest := n
		for range length {
			o.do(t, x, rest%calls)
			if rest /= calls; o.asked && o.watched > 0 && o.told != 1 {
				t.Errorf("P1504: told %d times behind a call", o.told)
			}
		}
		if origins, _ := x.Len(); origins != 2 && (origins != 3 || o.told != 0) {
			t.Errorf("P1504: %d origins", origins)
		}
		if t.Failed() {
			t.Fatalf("behind the calls %d, by six", n)
		}
	}
}

// Runs that are made by chance, of several references side by side.
func TestP1504ByChance(t *testing.T) {
	r := rand.New(rand.NewSource(1504))
	for range 200 {
		x := mons.New()
		few := make([]once, 1+r.Intn(8))
		for i := range few {
			few[i].ref = 1 + i*3
		}
		for range 300 {
			few[r.Intn(len(few))].do(t, x, r.Intn(7))
		}
		for i := range few {
			few[i].do(t, x, 1)
			few[i].do(t, x, 2)
			if few[i].watched > 0 && few[i].told != 1 {
				t.Errorf("P1504 of %d: told %d times", few[i].ref, few[i].told)
			}
		}
		if t.Failed() {
			return
		}
	}
}

// An origin that was popped is told by neither.
func TestP1504Popped(t *testing.T) {
	x := mons.New()
	for _, ref := range serials {
		expectWatch(t, x, origin(ref, 1, "p"), api.OK)
		expectPopOrigin(t, x, origin(ref, 1, "p"))
		expectDown(t, x, ref, api.Mon{})
		expectDemonitor(t, x, ref, api.Mon{})
	}
}

// A Watch that is refused begins nothing anew: the one told is that of before, once.
func TestP1504RefusedWatch(t *testing.T) {
	x := mons.New()
	expectWatch(t, x, origin(5, 2, "first"), api.OK)
	expectWatch(t, x, origin(5, 3, "second"), api.ErrArg)
	expectDemonitor(t, x, 5, origin(5, 2, "first"))
	expectWatch(t, x, origin(5, -1, "third"), api.ErrArg)
	expectDown(t, x, 5, api.Mon{})
	expectDemonitor(t, x, 5, api.Mon{})
}
