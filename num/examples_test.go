package num_test

import (
	"testing"

	"exitwave/api"
	"exitwave/num"
)

// The chapter's examples, by their numbers.

func TestExample1(t *testing.T) {
	got, e := num.Int(1 << 59)
	expect(t, "Int(1 << 59)", got, e, api.Term{}, api.ErrLimit)
	got, e = num.Float(nan)
	expect(t, "Float(0 / 0)", got, e, api.Term{}, api.ErrArith)
	got, e = num.Float(inf)
	expect(t, "Float(1 / 0)", got, e, api.Term{}, api.ErrArith)
	got, e = num.Bits(0x8000000000000000)
	expect(t, "Bits(0x8000000000000000)", got, e, float(minus), api.OK)
	got, e = num.Bits(0x7ff0000000000001)
	expect(t, "Bits(0x7ff0000000000001)", got, e, api.Term{}, api.ErrArith)
}

func TestExample2(t *testing.T) {
	for _, c := range []struct {
		sign string
		a, b api.Term
		want api.Term
		e    api.Errno
	}{
		{"+", whole(api.MaxInt), whole(1), api.Term{}, api.ErrLimit},
		{"/", whole(1), whole(2), float(0.5), api.OK},
		{"/", whole(1), float(minus), api.Term{}, api.ErrArith},
		{"*", float(1e200), float(1e200), api.Term{}, api.ErrArith},
		{"-", float(0), float(0), float(0), api.OK},
		{"*", whole(0), float(-1.5), float(minus), api.OK},
		{"rem", whole(-7), whole(2), whole(-1), api.OK},
		{"div", float(1), whole(1), api.Term{}, api.ErrArith},
	} {
		got, e := num.Op(c.sign, c.a, c.b)
		expect(t, "Op "+c.sign, got, e, c.want, c.e)
	}
}

func TestExample3(t *testing.T) {
	if got := num.Near(1<<53 + 1); got != 1<<53 {
		t.Errorf("Near(1 << 53 + 1): %v", got)
	}
	if got := num.Exact(1<<53, 1<<53+1); got != -1 {
		t.Errorf("Exact(1 << 53, 1 << 53 + 1): %d", got)
	}
	if got := num.Cmp(whole(576460752303423487), float(576460752303423488)); got != -1 {
		t.Errorf("Cmp(MaxInt, 576460752303423488.0): %d", got)
	}
}

func TestExample4(t *testing.T) {
	for _, c := range []struct {
		how  string
		f    float64
		want api.Term
		e    api.Errno
	}{
		{"round", -2.5, whole(-3), api.OK},
		{"round", 0.49999999999999994, whole(0), api.OK},
		{"trunc", 1e300, api.Term{}, api.ErrLimit},
		{"ceil", -0.5, whole(0), api.OK},
	} {
		got, e := num.Whole(c.how, float(c.f))
		expect(t, "Whole "+c.how, got, e, c.want, c.e)
	}
}

func TestExample5(t *testing.T) {
	if got := num.Text(float(minus)); got != "#8000000000000000" {
		t.Errorf("Text(-0.0): %s", got)
	}
	if got := num.Text(float(1.5)); got != "#3ff8000000000000" {
		t.Errorf("Text(1.5): %s", got)
	}
}
