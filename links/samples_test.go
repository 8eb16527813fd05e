package links_test

import (
	"maps"
	"math"
	"slices"
	"testing"

	"exitwave/api"
	"exitwave/links"
)

// pids are the first ones, some in the midst, and the last ones that an int can be.
var pids = []int{1, 2, 3, 7, 1 << 10, 1 << 20, 1 << 40, math.MaxInt - 1, math.MaxInt}

// strange are those that no process has.
var strange = []int{0, -1, -2, -1 << 40, math.MinInt + 1, math.MinInt}

func linked(pid int) api.Half { return api.Half{Pid: pid, State: api.Linked} }

func unlinking(pid, id int) api.Half { return api.Half{Pid: pid, State: api.Unlinking, Id: id} }

// book says chapter 14 once more: the half-links in a map, and how many identifiers were told.
type book struct {
	has map[int]api.Half
	ids int
}

func newBook() *book { return &book{has: map[int]api.Half{}} }

func (b *book) link(pid int) bool {
	sent := b.has[pid] != linked(pid)
	b.has[pid] = linked(pid)
	return sent
}

func (b *book) unlink(pid int) (int, bool) {
	if b.has[pid] != linked(pid) {
		return 0, false
	}
	b.ids++
	b.has[pid] = unlinking(pid, b.ids)
	return b.ids, true
}

func (b *book) onLink(pid int) {
	if _, is := b.has[pid]; !is {
		b.has[pid] = linked(pid)
	}
}

func (b *book) onAck(pid, id int) bool { return b.remove(unlinking(pid, id)) }

func (b *book) onExit(pid int) bool { return b.remove(linked(pid)) }

// remove takes out just this half-link, if it is there.
func (b *book) remove(h api.Half) bool {
	if b.has[h.Pid] != h {
		return false
	}
	delete(b.has, h.Pid)
	return true
}

func (b *book) all() []api.Half {
	var l []api.Half
	for _, pid := range slices.Sorted(maps.Keys(b.has)) {
		l = append(l, b.has[pid])
	}
	return l
}

func (b *book) pop() (api.Half, bool) {
	l := b.all()
	if len(l) == 0 {
		return api.Half{}, false
	}
	return l[0], b.remove(l[0])
}

// expectTable holds all that a table tells, without being changed, against the half-links that it must have, which are by Pid.
func expectTable(t *testing.T, x *links.Table, want ...api.Half) {
	t.Helper()
	if x.Len() != len(want) {
		t.Errorf("P1403 Len: %d; want %d", x.Len(), len(want))
	}
	if l := x.All(); !slices.Equal(l, want) {
		t.Errorf("P1403 All: %v; want %v", l, want)
	}
	asked := slices.Concat(pids, strange)
	for _, h := range want {
		expectGet(t, x, h.Pid, h)
		asked = append(asked, h.Pid-1, h.Pid+1) // it may wrap round: any pid will do
	}
	for _, pid := range asked {
		if !slices.ContainsFunc(want, func(h api.Half) bool { return h.Pid == pid }) {
			expectNone(t, x, pid)
		}
	}
}

func expectGet(t *testing.T, x *links.Table, pid int, want api.Half) {
	t.Helper()
	if h, is := x.Get(pid); h != want || !is {
		t.Errorf("P1403 Get(%d): %v, %v; want %v, true", pid, h, is, want)
	}
}

func expectNone(t *testing.T, x *links.Table, pid int) {
	t.Helper()
	if h, is := x.Get(pid); h != (api.Half{}) || is {
		t.Errorf("P1403 Get(%d): %v, %v; want none", pid, h, is)
	}
}

func expectLink(t *testing.T, x *links.Table, pid int, want bool) {
	t.Helper()
	if is := x.Link(pid); is != want {
		t.Errorf("P1401 Link(%d): %v; want %v", pid, is, want)
	}
}

// expectUnlink wants an identifier, or 0, where nothing is to be sent.
func expectUnlink(t *testing.T, x *links.Table, pid, want int) {
	t.Helper()
	if id, is := x.Unlink(pid); id != want || is != (want > 0) {
		t.Errorf("P1401 Unlink(%d): %d, %v; want %d", pid, id, is, want)
	}
}

func expectAck(t *testing.T, x *links.Table, pid, id int, want bool) {
	t.Helper()
	if is := x.OnAck(pid, id); is != want {
		t.Errorf("P1402 OnAck(%d, %d): %v; want %v", pid, id, is, want)
	}
}

func expectExit(t *testing.T, x *links.Table, pid int, want bool) {
	t.Helper()
	if is := x.OnExit(pid); is != want {
		t.Errorf("P1402 OnExit(%d): %v; want %v", pid, is, want)
	}
}

// expectPop wants a half-link, or a zero one, where there is none.
func expectPop(t *testing.T, x *links.Table, want api.Half) {
	t.Helper()
	if h, is := x.Pop(); h != want || is != (want != api.Half{}) {
		t.Errorf("P1403 Pop: %v, %v; want %v", h, is, want)
	}
}

// standing is a table of pid 10's half-link and of others around it, and what it has.
type standing struct {
	name  string
	table *links.Table
	has   []api.Half
}

// standings are the three ways in which the half-link with 10 may stand: none, Linked, Unlinking (by 3: the identifiers 1 and 2 were told of others).
func standings() []standing {
	none := []api.Half{linked(8), unlinking(9, 2), unlinking(11, 1), linked(12)}
	is := standing{"Linked", among(), with(none, linked(10))}
	is.table.Set(10)
	was := standing{"Unlinking", among(), with(none, unlinking(10, 3))}
	was.table.Set(10)
	was.table.Unlink(10)
	return []standing{{"none", among(), none}, is, was}
}

// among is a table of half-links around 10.
func among() *links.Table {
	x := links.New()
	for _, pid := range []int{12, 9, 8, 11} {
		x.Set(pid)
	}
	x.Unlink(11)
	x.Unlink(9)
	return x
}

// with is what a table has that is like l, but for the half-link with h's Pid, which is h.
func with(l []api.Half, h api.Half) []api.Half {
	out := append(without(l, h.Pid), h)
	slices.SortFunc(out, func(a, b api.Half) int { return a.Pid - b.Pid })
	return out
}

func without(l []api.Half, pid int) []api.Half {
	return slices.DeleteFunc(slices.Clone(l), func(h api.Half) bool { return h.Pid == pid })
}
