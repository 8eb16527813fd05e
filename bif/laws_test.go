package bif_test

import (
	"math"
	"math/rand"
	"slices"
	"testing"

	"exitwave/api"
)

// some: right terms of all kinds, and some made by chance.
func some() []api.Term {
	r := rand.New(rand.NewSource(903))
	out := append(kinds(), numbers()...)
	for range 300 {
		out = append(out, someTerm(r, 3))
	}
	return append(out, list(times(api.MaxWords/2, whole(1))...), tuple(times(api.MaxWords/2, float(1))[:api.MaxWords/4]...), nested(api.KList, api.MaxDepth-1, whole(1)), nested(api.KTuple, api.MaxDepth-1, float(1)))
}

// told asks for what a builtin tells.
func told(t *testing.T, name string, l ...api.Term) api.Term {
	t.Helper()
	x, e := askCall(t, name, l...)
	if e != api.OK {
		t.Fatalf("P903 %s %s: %v", name, saidAll(l), e)
	}
	return x
}

func expectBack(t *testing.T, law string, x, back api.Term) {
	t.Helper()
	if !alike(x, back) {
		t.Errorf("P903 %s: %s, not %s", law, said(back), said(x))
	}
}

// P903: there and back.
func TestP903Back(t *testing.T) {
	for _, x := range some() {
		switch x.Kind {
		case api.KList:
			expectBack(t, "reverse twice", x, told(t, "reverse", told(t, "reverse", x)))
			expectBack(t, "tuple_to_list of list_to_tuple", x, told(t, "tuple_to_list", told(t, "list_to_tuple", x)))
		case api.KTuple:
			expectBack(t, "list_to_tuple of tuple_to_list", x, told(t, "list_to_tuple", told(t, "tuple_to_list", x)))
		case api.KAtom:
			expectBack(t, "list_to_atom of atom_to_list", x, told(t, "list_to_atom", told(t, "atom_to_list", x)))
		case api.KInt:
			expectBack(t, "list_to_integer of integer_to_list", x, told(t, "list_to_integer", told(t, "integer_to_list", x)))
		case api.KFloat:
			expectBack(t, "bits behind the first byte of float_to_list", x, told(t, "bits", told(t, "tl", told(t, "float_to_list", x))))
		}
	}
	r := rand.New(rand.NewSource(9031))
	for range 5000 {
		n := whole(r.Int63()>>4*int64(1-2*r.Intn(2))>>r.Intn(59) + int64(r.Intn(3)-1))
		if n.N >= api.MinInt && n.N <= api.MaxInt {
			expectBack(t, "list_to_integer of integer_to_list", n, told(t, "list_to_integer", told(t, "integer_to_list", n)))
		}
		if f := math.Float64frombits(r.Uint64()); !math.IsNaN(f) && !math.IsInf(f, 0) {
			expectBack(t, "bits behind the first byte of float_to_list", float(f), told(t, "bits", told(t, "tl", told(t, "float_to_list", float(f)))))
		}
	}
}

// P903: length(A ++ B) is the sum; hd and tl make the list.
func TestP903Length(t *testing.T) {
	var lists []api.Term
	for _, x := range some() {
		if x.Kind == api.KList && len(x.L) < 100 {
			lists = append(lists, x)
		}
	}
	for _, a := range lists {
		for _, b := range lists {
			both, e := askOp(t, "++", a, b)
			if e != api.OK {
				t.Fatalf("P903 %s ++ %s: %v", said(a), said(b), e)
			}
			expectOp(t, told(t, "length", both), "+", told(t, "length", a), told(t, "length", b))
		}
		if len(a.L) > 0 {
			expectOp(t, a, "++", list(told(t, "hd", a)), told(t, "tl", a))
		}
	}
}

// P903: sort rises, and has the same elements.
func TestP903Sort(t *testing.T) {
	r := rand.New(rand.NewSource(9032))
	for n := range 300 {
		var l []api.Term
		for range n / 4 {
			l = append(l, someTerm(r, 2))
		}
		got := told(t, "sort", list(l...)).L
		for i := 1; i < len(got); i++ {
			if order(got[i-1], got[i]) > 0 {
				t.Errorf("P903 sort: %s ahead of %s", said(got[i-1]), said(got[i]))
			}
		}
		rest := slices.Clone(l)
		for _, x := range got {
			at := slices.IndexFunc(rest, func(y api.Term) bool { return alike(x, y) })
			if at < 0 {
				t.Fatalf("P903 sort: %s was not there", said(x))
			}
			rest = slices.Delete(rest, at, at+1)
		}
		if len(rest) > 0 {
			t.Errorf("P903 sort: %d are gone", len(rest))
		}
	}
}

// P904: of two terms just one of <, ==, > is true; =:= only where == is.
func TestP904(t *testing.T) {
	yes := atom("true")
	all := append(kinds(), numbers()...)
	r := rand.New(rand.NewSource(904))
	for range 40 {
		all = append(all, someTerm(r, 2))
	}
	for _, a := range all {
		for _, b := range all {
			var is []string
			for _, sign := range []string{"<", "==", ">"} {
				if x, e := askOp(t, sign, a, b); e == api.OK && alike(x, yes) {
					is = append(is, sign)
				}
			}
			if len(is) != 1 {
				t.Fatalf("P904 %s and %s: %v", said(a), said(b), is)
			}
			if x, e := askOp(t, "=:=", a, b); e == api.OK && alike(x, yes) && is[0] != "==" {
				t.Errorf("P904 %s =:= %s, but %v", said(a), said(b), is)
			}
		}
		expectOp(t, yes, "=:=", a, a)
	}
}
