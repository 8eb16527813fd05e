package term_test

import (
	"testing"

	"exitwave/api"
	"exitwave/term"
)

func TestExample1(t *testing.T) {
	expectCheck(t, whole(1<<59), api.ErrTerm, 0, 0)
	expectCheck(t, float(nan), api.ErrTerm, 0, 0)
	expectCheck(t, api.Term{Kind: api.KAtom, N: 1}, api.ErrTerm, 0, 0)
	expectCheck(t, nested(api.KList, 200, list()), api.ErrLimit, 0, 0)
	expectCheck(t, nested(api.KList, 199, list()), api.OK, 398, 200)
	expectCheck(t, tuple(atom("a"), list(whole(1), float(2))), api.OK, 9, 3)
}

func TestExample2(t *testing.T) {
	l := []api.Term{whole(1), float(1.5), whole(2), atom("a"), ref(1), fun(0), pid(0), tuple(), tuple(atom("a")), list(), list(whole(1)), list(whole(1), whole(2))}
	for i := range l {
		for k := range l {
			if c, e := term.Cmp(l[i], l[k]); c != sign(i-k) || e != api.OK {
				t.Errorf("example 2: %s and %s: %d, %v", said(l[i]), said(l[k]), c, e)
			}
		}
	}
	for _, c := range [][2]api.Term{{whole(1), float(1)}, {float(0), float(minus)}} {
		equal, _ := term.Equal(c[0], c[1])
		same, _ := term.Same(c[0], c[1])
		if !equal || same {
			t.Errorf("example 2: %s and %s: equal %v, identical %v", said(c[0]), said(c[1]), equal, same)
		}
	}
}

func TestExample3(t *testing.T) {
	expectText(t, tuple(atom("Ab"), atom("ok"), list(), pid(3)), "{'Ab',ok,[],#Pid3}")
	expectText(t, atom("end"), "'end'")
}
