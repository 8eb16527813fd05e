package term_test

import (
	"fmt"
	"math"
	"math/big"
	"math/rand"
	"slices"
	"testing"

	"exitwave/api"
	"exitwave/term"
)

// said is a short form of a term for what a test tells.
func said(x api.Term) string {
	s := fmt.Sprintf("%d:%d:%v:%q", x.Kind, x.N, x.F, x.S)
	for _, y := range x.L[:min(len(x.L), 3)] {
		if len(s) < 200 && len(y.L) < 3 {
			s += fmt.Sprintf("<%d:%d:%v:%q .. %d>", y.Kind, y.N, y.F, y.S, len(y.L))
		}
	}
	return s
}

// orderOf says W4 once more: kinds by a list of them, numbers by fractions of any size.
func orderOf(a, b api.Term) int {
	place := []int{api.KInt: 0, api.KFloat: 0, api.KAtom: 1, api.KRef: 2, api.KFun: 3, api.KPid: 4, api.KTuple: 5, api.KList: 6}
	if c := place[a.Kind] - place[b.Kind]; c != 0 {
		return sign(c)
	}
	switch a.Kind {
	case api.KInt, api.KFloat:
		return exact(a).Cmp(exact(b))
	case api.KAtom:
		return sign(slices.Compare([]byte(a.S), []byte(b.S)))
	case api.KTuple:
		if len(a.L) != len(b.L) {
			return sign(len(a.L) - len(b.L))
		}
	case api.KRef, api.KPid, api.KFun:
		if a.N != b.N {
			return big.NewInt(a.N).Cmp(big.NewInt(b.N))
		}
	}
	for i := 0; i < len(a.L) && i < len(b.L); i++ {
		if c := orderOf(a.L[i], b.L[i]); c != 0 {
			return c
		}
	}
	return sign(len(a.L) - len(b.L))
}

func sign(n int) int { return min(max(n, -1), 1) }

func exact(a api.Term) *big.Rat {
	if a.Kind == api.KInt {
		return new(big.Rat).SetInt64(a.N)
	}
	return new(big.Rat).SetFloat64(a.F)
}

// expectOrder holds Cmp, Equal and Same of two right terms against W4.
func expectOrder(t *testing.T, a, b api.Term) {
	t.Helper()
	want := orderOf(a, b)
	if c, e := term.Cmp(a, b); c != want || e != api.OK {
		t.Errorf("P202 Cmp(%s, %s): %d, %v; want %d", said(a), said(b), c, e, want)
	}
	if is, e := term.Equal(a, b); is != (want == 0) || e != api.OK {
		t.Errorf("P202 Equal(%s, %s): %v, %v", said(a), said(b), is, e)
	}
	if is, e := term.Same(a, b); is != alike(a, b) || e != api.OK {
		t.Errorf("P202 Same(%s, %s): %v, %v", said(a), said(b), is, e)
	}
}

func TestP202All(t *testing.T) {
	all := rights()
	for i, a := range all {
		for k, b := range all {
			if len(a.L)+len(b.L) < 100 || (i+k)%5 == 0 { // the greatest ones take their time
				expectOrder(t, a, b)
			}
		}
	}
}

func TestP202ByChance(t *testing.T) {
	r := rand.New(rand.NewSource(202))
	for range 50000 {
		a, b := somehow(r, 3, true), somehow(r, 3, true)
		expectOrder(t, a, b)
		expectOrder(t, list(a, b), list(a, somehow(r, 2, true)))
		expectOrder(t, a, term.Copy(a))
	}
}

func TestP202Table(t *testing.T) {
	for _, c := range []struct {
		a, b  api.Term
		order int
		same  bool
	}{
		{whole(1), float(1), 0, false},
		{float(0), float(minus), 0, false},
		{whole(0), float(minus), 0, false},
		{float(minus), float(minus), 0, true},
		{whole(1<<53 + 1), float(1 << 53), 1, false},
		{whole(api.MaxInt), float(0x1p59), -1, false},
		{float(-0x1p59), whole(api.MinInt), 0, false},
		{float(math.MaxFloat64), atom(""), -1, false},
		{atom("a"), atom("ab"), -1, false},
		{atom("B"), atom("a"), -1, false},
		{atom("é"), atom("z"), 1, false},
		{atom("zzz"), ref(0), -1, false},
		{ref(1 << 40), fun(0), -1, false},
		{fun(api.MaxNodes, list()), pid(0), -1, false},
		{fun(1, whole(9)), fun(2), -1, false},
		{fun(1, whole(9)), fun(1, whole(1), whole(1)), 1, false},
		{fun(1), fun(1, whole(1)), -1, false},
		{fun(1, whole(1)), fun(1, float(1)), 0, false},
		{pid(1 << 40), tuple(), -1, false},
		{tuple(whole(9)), tuple(whole(1), whole(1)), -1, false},
		{tuple(whole(1), whole(3)), tuple(whole(1), whole(2)), 1, false},
		{tuple(whole(1), float(2)), tuple(float(1), whole(2)), 0, false},
		{tuple(list(float(0))), tuple(list(float(minus))), 0, false},
		{tuple(list(float(0))), tuple(list(float(0))), 0, true},
		{tuple(list(), list(), list()), list(), -1, false},
		{list(whole(9)), list(whole(1), whole(1)), 1, false},
		{list(whole(1)), list(whole(1), whole(1)), -1, false},
		{list(float(1)), list(whole(1), whole(1)), -1, false},
	} {
		if n, e := term.Cmp(c.a, c.b); n != c.order || e != api.OK {
			t.Errorf("P202 Cmp(%s, %s): %d, %v; want %d", said(c.a), said(c.b), n, e, c.order)
		}
		if n, e := term.Cmp(c.b, c.a); n != -c.order || e != api.OK {
			t.Errorf("P202 Cmp(%s, %s): %d, %v; want %d", said(c.b), said(c.a), n, e, -c.order)
		}
		if is, e := term.Equal(c.a, c.b); is != (c.order == 0) || e != api.OK {
			t.Errorf("P202 Equal(%s, %s): %v, %v", said(c.a), said(c.b), is, e)
		}
		if is, e := term.Same(c.a, c.b); is != c.same || e != api.OK {
			t.Errorf("P202 Same(%s, %s): %v, %v", said(c.a), said(c.b), is, e)
		}
	}
}

// The first one's error is told ahead of the second one's (P6), and nothing beside it (P4).
func TestP202Refuses(t *testing.T) {
	wrong, far := api.Term{Kind: api.KAtom, N: 1}, nested(api.KList, 200, whole(1))
	refuse := func(a, b api.Term, want api.Errno) {
		t.Helper()
		if n, e := term.Cmp(a, b); n != 0 || e != want {
			t.Errorf("P202 Cmp(%s, %s): %d, %v; want %v", said(a), said(b), n, e, want)
		}
		if is, e := term.Equal(a, b); is || e != want {
			t.Errorf("P202 Equal(%s, %s): %v, %v; want %v", said(a), said(b), is, e, want)
		}
		if is, e := term.Same(a, b); is || e != want {
			t.Errorf("P202 Same(%s, %s): %v, %v; want %v", said(a), said(b), is, e, want)
		}
	}
	refuse(wrong, far, api.ErrTerm)
	refuse(far, wrong, api.ErrLimit)
	for _, x := range wrongs() {
		for _, y := range []api.Term{whole(1), atom("a"), list(), x} {
			refuse(x, y, api.ErrTerm)
			refuse(y, x, api.ErrTerm)
		}
	}
	for _, x := range beyond() {
		refuse(x, whole(1), api.ErrLimit)
		refuse(tuple(), x, api.ErrLimit)
		refuse(x, x, api.ErrLimit)
	}
}
