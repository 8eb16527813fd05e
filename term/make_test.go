package term_test

import (
	"math"
	"math/rand"
	"slices"
	"strings"
	"testing"

	"exitwave/api"
	"exitwave/term"
)

func TestP204Copy(t *testing.T) {
	odd := api.Term{Kind: -9, N: math.MinInt64, F: math.Float64frombits(0x7ff0000000000001), S: strings.Repeat("\xff", 100), L: []api.Term{{}, float(inf)}}
	all := slices.Concat(rights(), wrongs(), beyond(), []api.Term{odd, list(odd, odd)})
	for _, x := range all {
		given := roomy(x)
		before := roomCopy(given)
		got := term.Copy(given)
		if !alike(got, x) {
			t.Errorf("P204 Copy(%s): %s", said(x), said(got))
		}
		if !alikeRoom(given, before) {
			t.Errorf("P2 Copy(%s) changed what was handed in", said(x))
		}
		ownMemory(t, "Copy", []api.Term{got}, given)
	}
}

// Lists that share memory, handed in, do not share any in a copy.
func TestP204CopyParts(t *testing.T) {
	l := []api.Term{whole(1), tuple(atom("a"))}
	x := list(list(l...), api.Term{Kind: api.KTuple, L: l}, api.Term{Kind: api.KFun, L: l[:1]})
	ownMemory(t, "Copy", []api.Term{term.Copy(x)}, x)
	made, _ := term.Tuple(x, x)
	ownMemory(t, "Tuple", []api.Term{made}, x)
	made, _ = term.List(x, x)
	ownMemory(t, "List", []api.Term{made}, x)
	sorted, _ := term.Sort([]api.Term{x, x, x.L[0]})
	ownMemory(t, "Sort", sorted, x)
}

func TestP204Atom(t *testing.T) {
	for _, s := range []string{"", "a", "Ab", "\x00\xff", strings.Repeat("a", 64), strings.Repeat("a", 65), strings.Repeat("é", 5000)} {
		if got := term.Atom(s); !alike(got, api.Term{Kind: api.KAtom, S: s}) {
			t.Errorf("P204 Atom(%.100q): %s", s, said(got))
		}
	}
}

// makers are Tuple and List with the kinds of what they make.
var makers = []struct {
	name string
	kind int
	call func(...api.Term) (api.Term, api.Errno)
}{
	{"Tuple", api.KTuple, term.Tuple},
	{"List", api.KList, term.List},
}

func expectMade(t *testing.T, name string, kind int, call func(...api.Term) (api.Term, api.Errno), l []api.Term, e api.Errno) {
	t.Helper()
	want := api.Term{}
	if e == api.OK {
		want = api.Term{Kind: kind, L: l}
	}
	given := roomy(api.Term{Kind: kind, L: l})
	before := roomCopy(given)
	got, gotE := call(given.L...)
	if gotE != e || !alike(got, want) {
		t.Errorf("P204 %s of %d, %s: %s, %v; want %v", name, len(l), said(given), said(got), gotE, e)
	}
	if !alikeRoom(given, before) {
		t.Errorf("P2 %s changed what was handed in", name)
	}
	ownMemory(t, name, []api.Term{got}, given)
}

func TestP204Makes(t *testing.T) {
	for _, m := range makers {
		for _, l := range [][]api.Term{nil, {}, {whole(1)}, {atom("a"), float(minus)}, {list(), tuple(), fun(1, whole(1))}, {list(tuple(whole(1))), list(tuple(whole(1)))}} {
			expectMade(t, m.name, m.kind, m.call, l, api.OK)
		}
	}
}

func TestP204Limits(t *testing.T) {
	for _, m := range makers {
		per, own := 1, 1
		if m.kind == api.KList {
			per, own = 2, 0
		}
		most := (api.MaxWords - own) / per
		expectMade(t, m.name, m.kind, m.call, times(most, whole(1)), api.OK)
		expectMade(t, m.name, m.kind, m.call, times(most+1, whole(1)), api.ErrLimit)
		// Words of an element count, too.
		rest := api.MaxWords - own - per
		expectMade(t, m.name, m.kind, m.call, []api.Term{tuple(times(rest-1, whole(1))...)}, api.OK)
		expectMade(t, m.name, m.kind, m.call, []api.Term{tuple(times(rest, whole(1))...)}, api.ErrLimit)
		half := tuple(times(1<<15, whole(1))...)
		expectMade(t, m.name, m.kind, m.call, []api.Term{half, half}, api.ErrLimit)
		for _, kind := range []int{api.KFun, api.KTuple, api.KList} {
			expectMade(t, m.name, m.kind, m.call, []api.Term{whole(1), nested(kind, 198, whole(1))}, api.OK)
			expectMade(t, m.name, m.kind, m.call, []api.Term{whole(1), nested(kind, 199, whole(1))}, api.ErrLimit)
			expectMade(t, m.name, m.kind, m.call, []api.Term{nested(kind, 200, whole(1)), whole(1)}, api.ErrLimit)
		}
	}
}

// The error of an element is told ahead of the whole's, and that of the first one ahead of others'.
func TestP204Refuses(t *testing.T) {
	far := nested(api.KList, 200, whole(1))
	for _, m := range makers {
		for _, x := range wrongs() {
			expectMade(t, m.name, m.kind, m.call, []api.Term{x}, api.ErrTerm)
			expectMade(t, m.name, m.kind, m.call, []api.Term{whole(1), x, far}, api.ErrTerm)
			expectMade(t, m.name, m.kind, m.call, []api.Term{whole(1), far, x}, api.ErrLimit)
			expectMade(t, m.name, m.kind, m.call, []api.Term{nested(api.KList, 199, whole(1)), x}, api.ErrTerm)
		}
		expectMade(t, m.name, m.kind, m.call, append(times(1<<16, whole(1)), api.Term{}), api.ErrTerm)
		expectMade(t, m.name, m.kind, m.call, append(times(1<<16, api.Term{}), far), api.ErrTerm)
	}
}

// expectSorted holds Sort against one that puts each term in its place, one by one.
func expectSorted(t *testing.T, l []api.Term) {
	t.Helper()
	var want []api.Term
	for _, x := range l {
		at := len(want)
		for at > 0 && orderOf(want[at-1], x) > 0 {
			at--
		}
		want = slices.Insert(want, at, x)
	}
	given := roomy(list(l...))
	before := roomCopy(given)
	got, e := term.Sort(given.L)
	if e != api.OK || !alikeAll(got, want) {
		t.Errorf("P205 Sort of %d: %d, %v", len(l), len(got), e)
	}
	if !alikeRoom(given, before) {
		t.Errorf("P2 Sort changed what was handed in")
	}
	ownMemory(t, "Sort", got, given)
}

func TestP205Sorts(t *testing.T) {
	expectSorted(t, nil)
	expectSorted(t, []api.Term{})
	expectSorted(t, []api.Term{list(whole(1))})
	expectSorted(t, []api.Term{whole(1), float(1), whole(0), float(minus), float(0), whole(0)})
	all := rights()
	expectSorted(t, all)
	slices.Reverse(all)
	expectSorted(t, all)
	r := rand.New(rand.NewSource(205))
	for n := range 200 {
		l := make([]api.Term, n)
		for i := range l {
			l[i] = somehow(r, 2, true)
		}
		expectSorted(t, l)
	}
}

// Equal terms stay as they stood, however many they are.
func TestP205Stable(t *testing.T) {
	kinds := []func(int64) api.Term{
		whole,
		func(n int64) api.Term { return float(float64(n)) },
	}
	var l []api.Term
	for i := range 700 {
		l = append(l, list(kinds[i*7%5%2](int64(i%3)), atom("a")))
	}
	expectSorted(t, l)
	zeros := []api.Term{float(minus), whole(0), float(0), whole(0), float(minus)}
	for range 200 {
		zeros = append(zeros, zeros[:5]...)
	}
	got, e := term.Sort(zeros)
	if e != api.OK || !alikeAll(got, zeros) {
		t.Errorf("P205: equal terms did not stay as they stood: %v", e)
	}
}

// More terms than a term could have may be sorted.
func TestP205Many(t *testing.T) {
	l := make([]api.Term, 1<<17)
	for i := range l {
		l[i] = whole(int64(len(l) - i))
	}
	got, e := term.Sort(l)
	for i := range got {
		if got[i].N != int64(i+1) {
			t.Fatalf("P205: %d at %d", got[i].N, i)
		}
	}
	if e != api.OK || len(got) != len(l) {
		t.Errorf("P205 Sort of 1 << 17: %d, %v", len(got), e)
	}
}

func TestP205Refuses(t *testing.T) {
	far := nested(api.KList, 200, whole(1))
	refuse := func(want api.Errno, l ...api.Term) {
		t.Helper()
		if got, e := term.Sort(l); len(got) != 0 || e != want {
			t.Errorf("P205 Sort(%s): %d, %v; want %v", said(list(l...)), len(got), e, want)
		}
	}
	for _, x := range wrongs() {
		refuse(api.ErrTerm, x)
		refuse(api.ErrTerm, whole(2), whole(1), x)
		refuse(api.ErrTerm, whole(2), x, far)
		refuse(api.ErrLimit, whole(2), far, x)
	}
	for _, x := range beyond() {
		refuse(api.ErrLimit, whole(2), x)
	}
}
