package bif_test

import (
	"slices"
	"testing"

	"exitwave/api"
	"exitwave/bif"
	"exitwave/term"
)

// The tests call the package through what stands here, which asks what must hold of every call: what is handed in stays as it is (P2), the answer is the caller's own (P2), the same call answers the same (P3), beside an error stands nothing (P4), what is told is a right term (P903).

// roomy is a list of terms once more, it and each list of it with spare room behind, in which marks stand.
func roomy(l []api.Term) []api.Term {
	own := make([]api.Term, 0, len(l)+2)
	for _, x := range l {
		if x.L != nil {
			x.L = roomy(x.L)
		}
		own = append(own, x)
	}
	return append(own, whole(77), atom("room"))[:len(l)]
}

// roomCopy is a list of terms once more, with what stands in the spare room of it, and of theirs.
func roomCopy(l []api.Term) []api.Term {
	own := slices.Clone(l[:cap(l)])
	for i := range own {
		if own[i].L != nil {
			own[i].L = roomCopy(own[i].L)
		}
	}
	return own
}

// listsOf tells all lists of terms, each with its spare room, behind out.
func listsOf(out [][]api.Term, l []api.Term) [][]api.Term {
	if cap(l) > 0 {
		out = append(out, l[:cap(l)])
	}
	for _, x := range l {
		out = listsOf(out, x.L)
	}
	return out
}

// overwrite writes over an answer, and fails, if two lists of it share memory.
func overwrite(t *testing.T, call string, x api.Term) {
	t.Helper()
	all := listsOf(nil, x.L)
	for i, l := range all {
		for k := range l {
			l[k] = api.Term{Kind: -5, N: int64(i), F: float64(k)}
		}
	}
	for i, l := range all {
		for k := range l {
			if l[k].Kind != -5 || l[k].N != int64(i) || l[k].F != float64(k) {
				t.Fatalf("P2 %s: two lists of the answer share memory", call)
			}
		}
	}
}

// tells is a call of the package with its arguments.
type tells func(l []api.Term) (api.Term, api.Errno)

// plainly asks of one answer what must hold of it, whatever was handed in.
func plainly(t *testing.T, call string, x api.Term, e api.Errno) {
	t.Helper()
	switch e {
	case api.OK:
		if c := term.Check(x); c != api.OK {
			t.Fatalf("P903 %s: no right term: %v", call, c)
		}
	case api.ErrNone, api.ErrArith, api.ErrLimit, api.ErrBad:
		if !alike(x, api.Term{}) {
			t.Fatalf("P4 %s: %s beside %v", call, said(x), e)
		}
	default:
		t.Fatalf("P902 %s: %v is no error of a program", call, e)
	}
}

// ask asks of a call all that must hold.
func ask(t *testing.T, call string, l []api.Term, make tells) (api.Term, api.Errno) {
	t.Helper()
	given := roomy(l)
	was := roomCopy(given)
	x, e := make(given)
	plainly(t, call, x, e)
	want := term.Copy(x)
	overwrite(t, call, x)
	if !slices.EqualFunc(roomCopy(given), was, alike) {
		t.Fatalf("P2 %s %s: what was handed in is changed", call, saidAll(l))
	}
	if again, f := make(given); f != e || !alike(again, want) {
		t.Fatalf("P3 %s %s: %s %v, then %s %v", call, saidAll(l), said(want), e, said(again), f)
	}
	return want, e
}

// takes is the number of arguments of a fun, for the tests: its place.
func takes(fun api.Term) int { return int(fun.N) }

// askCall calls a builtin. The number of arguments is asked for of right funs alone.
func askCall(t *testing.T, name string, l ...api.Term) (api.Term, api.Errno) {
	t.Helper()
	return ask(t, name, l, func(l []api.Term) (api.Term, api.Errno) {
		return bif.Call(name, l, func(f api.Term) int {
			if f.Kind != api.KFun || term.Check(f) != api.OK {
				t.Errorf("P902 %s %s: arity is asked of %s", name, saidAll(l), said(f))
			}
			return takes(f)
		})
	})
}

func askOp(t *testing.T, sign string, l ...api.Term) (api.Term, api.Errno) {
	t.Helper()
	return ask(t, sign, l, func(l []api.Term) (api.Term, api.Errno) { return bif.Op(sign, l) })
}

func expectSame(t *testing.T, promise, name string, l []api.Term, got api.Term, e api.Errno, want api.Term, wantE api.Errno) {
	t.Helper()
	if e != wantE || !alike(got, want) {
		t.Errorf("%s %s %s: %s %v; want %s %v", promise, name, saidAll(l), said(got), e, said(want), wantE)
	}
}

// expectOp, expectCall ask for a term; refusesOp, refusesCall for an error.
func expectOp(t *testing.T, want api.Term, sign string, l ...api.Term) {
	t.Helper()
	got, e := askOp(t, sign, l...)
	expectSame(t, "P901", sign, l, got, e, want, api.OK)
}

func refusesOp(t *testing.T, want api.Errno, sign string, l ...api.Term) {
	t.Helper()
	got, e := askOp(t, sign, l...)
	expectSame(t, "P901", sign, l, got, e, api.Term{}, want)
}

func expectCall(t *testing.T, want api.Term, name string, l ...api.Term) {
	t.Helper()
	got, e := askCall(t, name, l...)
	expectSame(t, "P902", name, l, got, e, want, api.OK)
}

func refusesCall(t *testing.T, want api.Errno, name string, l ...api.Term) {
	t.Helper()
	got, e := askCall(t, name, l...)
	expectSame(t, "P902", name, l, got, e, api.Term{}, want)
}
