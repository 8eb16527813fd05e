package term_test

import (
	"math/rand"
	"testing"

	"exitwave/api"
	"exitwave/term"
)

// small: right terms that are quickly compared three by three, some of them equal, some made by chance.
func small() []api.Term {
	var out []api.Term
	for _, x := range rights() {
		if len(x.L) < 10 {
			out = append(out, x)
		}
	}
	r := rand.New(rand.NewSource(206))
	for range 60 {
		out = append(out, somehow(r, 2, true))
	}
	return out
}

func TestP206Total(t *testing.T) {
	l := small()
	order := make([][]int, len(l))
	for i, a := range l {
		order[i] = make([]int, len(l))
		for k, b := range l {
			order[i][k], _ = term.Cmp(a, b)
		}
	}
	for i := range l {
		if order[i][i] != 0 {
			t.Errorf("P206: %s is not equal to itself", said(l[i]))
		}
		for k := range l {
			if order[i][k] != -order[k][i] {
				t.Errorf("P206: %s and %s: %d, the other way %d", said(l[i]), said(l[k]), order[i][k], order[k][i])
			}
			for m := range l {
				if order[i][k] <= 0 && order[k][m] <= 0 && order[i][m] > 0 {
					t.Errorf("P206: %s, %s, %s are not in order", said(l[i]), said(l[k]), said(l[m]))
				}
			}
		}
	}
}

func TestP206Identical(t *testing.T) {
	l := small()
	for _, a := range l {
		for _, b := range l {
			same, _ := term.Same(a, b)
			equal, _ := term.Equal(a, b)
			if same && !equal {
				t.Errorf("P206: %s and %s are identical, but not equal", said(a), said(b))
			}
			x, _ := term.Text(a)
			y, _ := term.Text(b)
			if x == "" || y == "" || same != (x == y) {
				t.Errorf("P206: %q and %q: identical is %v", x, y, same)
			}
		}
	}
}

// TestP207 makes terms of elements, and holds the sizes of the whole against theirs.
func TestP207(t *testing.T) {
	r := rand.New(rand.NewSource(207))
	l := small()
	for range 5000 {
		var some []api.Term
		words, depth := 0, 0
		for range r.Intn(5) {
			x := l[r.Intn(len(l))]
			w, _ := term.Words(x)
			d, _ := term.Depth(x)
			some, words, depth = append(some, x), words+w, max(depth, d)
		}
		n := len(some)
		for _, c := range []struct {
			x     api.Term
			words int
		}{{tuple(some...), words + 1 + n}, {list(some...), words + 2*n}, {fun(1, some...), words + 2 + n}} {
			if depth == api.MaxDepth {
				expectCheck(t, c.x, api.ErrLimit, 0, 0)
				continue
			}
			expectCheck(t, c.x, api.OK, c.words, depth+1)
			expectCheck(t, term.Copy(c.x), api.OK, c.words, depth+1)
		}
	}
}

// All calls leave what is handed in as it is, its spare room, too (P2), and answer the same again (P3).
func TestP2P3(t *testing.T) {
	for _, x := range append(append(small(), wrongs()...), nested(api.KTuple, 300, whole(1))) {
		given := roomy(x)
		before := roomCopy(given)
		e, again := term.Check(given), term.Check(given)
		w, e1 := term.Words(given)
		d, e2 := term.Depth(given)
		s, e3 := term.Text(given)
		s2, _ := term.Text(given)
		c, e4 := term.Cmp(given, given)
		eq, e5 := term.Equal(given, given)
		same, e6 := term.Same(given, given)
		if e != again || e1 != e || e2 != e || e3 != e || e4 != e || e5 != e || e6 != e || s != s2 {
			t.Errorf("P3 %s: %v %v %v %v %v %v %v %v", said(x), e, again, e1, e2, e3, e4, e5, e6)
		}
		if e != api.OK && (w != 0 || d != 0 || s != "" || c != 0 || eq || same) {
			t.Errorf("P4 %s: %d %d %q %d %v %v beside %v", said(x), w, d, s, c, eq, same, e)
		}
		if e == api.OK && (!eq || !same || c != 0) {
			t.Errorf("P202 %s is not identical to itself", said(x))
		}
		if !alikeRoom(given, before) {
			t.Errorf("P2: %s was changed", said(x))
		}
	}
}
