package num_test

import (
	"fmt"
	"math/big"
	"testing"

	"exitwave/api"
	"exitwave/num"
)

// rightOrNone fails, if an answer is neither a right number without an error, nor nothing beside one.
func rightOrNone(t *testing.T, call string, got api.Term, e api.Errno) {
	t.Helper()
	if e == api.OK && !isRight(got) || e != api.OK && !alike(got, api.Term{}) {
		t.Errorf("P108 %s: %v, %v", call, got, e)
	}
}

func TestP108Right(t *testing.T) {
	all := append(wrongs(), numbers()...)
	for _, a := range all {
		got, e := num.Neg(a)
		rightOrNone(t, fmt.Sprintf("Neg(%v)", a), got, e)
		got, e = num.Abs(a)
		rightOrNone(t, fmt.Sprintf("Abs(%v)", a), got, e)
		got, e = num.Real(a)
		rightOrNone(t, fmt.Sprintf("Real(%v)", a), got, e)
		for _, how := range append(allWays, "none") {
			got, e = num.Whole(how, a)
			rightOrNone(t, fmt.Sprintf("Whole(%s, %v)", how, a), got, e)
		}
		for _, b := range all {
			for _, sign := range append(allSigns, "none") {
				got, e = num.Op(sign, a, b)
				rightOrNone(t, fmt.Sprintf("%v %s %v", a, sign, b), got, e)
			}
		}
	}
}

func TestP108NoOrder(t *testing.T) {
	for _, sign := range []string{"+", "*"} {
		for _, a := range numbers() {
			for _, b := range numbers() {
				x, e := num.Op(sign, a, b)
				y, f := num.Op(sign, b, a)
				if e != f || !alike(x, y) {
					t.Errorf("P108 %v %s %v: %v, %v; the other way %v, %v", a, sign, b, x, e, y, f)
				}
			}
		}
	}
}

func TestP108Division(t *testing.T) {
	for _, a := range wholes() {
		for _, b := range wholes() {
			q, e := num.Op("div", a, b)
			r, f := num.Op("rem", a, b)
			if e != api.OK || f != api.OK {
				continue
			}
			sum := new(big.Int).Mul(big.NewInt(q.N), big.NewInt(b.N))
			sum.Add(sum, big.NewInt(r.N))
			if sum.Cmp(big.NewInt(a.N)) != 0 || r.N != 0 && (r.N < 0) != (a.N < 0) {
				t.Errorf("P108 %d by %d: %d, the rest %d", a.N, b.N, q.N, r.N)
			}
		}
	}
}

func TestP109Total(t *testing.T) {
	all := numbers()
	for _, a := range all {
		for _, b := range all {
			ab := num.Cmp(a, b)
			if ab < -1 || ab > 1 || ab != -num.Cmp(b, a) {
				t.Errorf("P109 Cmp(%v, %v): %d, the other way %d", a, b, ab, num.Cmp(b, a))
			}
			for _, c := range all {
				if ab <= 0 && num.Cmp(b, c) <= 0 && num.Cmp(a, c) > 0 {
					t.Errorf("P109: %v, %v, %v", a, b, c)
				}
			}
		}
	}
}

func TestP109Same(t *testing.T) {
	for _, a := range numbers() {
		for _, b := range numbers() {
			same, equal := num.Same(a, b), num.Cmp(a, b) == 0
			zeros := a.Kind == api.KFloat && a.F == 0 && b.F == 0
			if same && !equal || equal && a.Kind == b.Kind && !same && !zeros {
				t.Errorf("P109 %v, %v: Same %v, Cmp 0 %v", a, b, same, equal)
			}
		}
	}
}

func TestP109Real(t *testing.T) {
	for _, a := range wholes() {
		r, e := num.Real(a)
		if e != api.OK || a.N >= -1<<53 && a.N <= 1<<53 && num.Cmp(a, r) != 0 {
			t.Errorf("P109 Real(%d): %v, %v", a.N, r, e)
		}
	}
	r, _ := num.Real(whole(1<<53 + 1))
	if num.Cmp(whole(1<<53+1), r) != 1 {
		t.Error("P109: beyond 2^53 a bit is lost, and Cmp does not see it")
	}
}

func TestP110(t *testing.T) {
	for _, a := range numbers() {
		told := map[string]int64{}
		for _, how := range allWays {
			if x, e := num.Whole(how, a); e == api.OK {
				told[how] = x.N
			}
		}
		if len(told) == 0 {
			continue
		}
		low, high := told["floor"], told["ceil"]
		if len(told) != len(allWays) || low > told["trunc"] || told["trunc"] > high || high-low > 1 || told["round"] != low && told["round"] != high {
			t.Errorf("P110 %v: %v", a, told)
		}
		minusA, e := num.Neg(a)
		floor, f := num.Whole("floor", minusA)
		if e == api.OK && f == api.OK && floor.N != -high {
			t.Errorf("P110 %v: floor of the negative %d, ceil %d", a, floor.N, high)
		}
	}
}
