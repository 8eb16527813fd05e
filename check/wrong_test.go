package check_test

import (
	"errors"
	"strings"
	"testing"

	"exitwave/api"
	"exitwave/check"
)

// P701: what a *Wrong says, and what it wraps.
func TestP701Wrong(t *testing.T) {
	for _, x := range []struct {
		e    api.Errno
		at   int
		want string
	}{
		{api.ErrChar, 0, "char at 0"}, {api.ErrNumber, 1, "number at 1"}, {api.ErrQuote, 22, "quote at 22"}, {api.ErrSyntax, 9, "syntax at 9"},
		{api.ErrDeep, 10, "deep at 10"}, {api.ErrMany, 65535, "many at 65535"}, {api.ErrLong, 0, "long at 0"},
		{api.ErrHead, 3, "head at 3"}, {api.ErrTwice, 4, "twice at 4"}, {api.ErrPattern, 5, "pattern at 5"}, {api.ErrGuard, 6, "guard at 6"},
		{api.ErrUnbound, 19, "unbound at 19"}, {api.ErrUnsafe, 99, "unsafe at 99"}, {api.ErrCall, 100, "call at 100"},
		{api.OK, 0, "ok at 0"}, {999, -1, "error at -1"},
	} {
		w := &check.Wrong{Fault: api.Fault{Err: x.e, At: x.at}}
		if got := w.Error(); got != x.want {
			t.Errorf("P701 Error: %q; want %q", got, x.want)
		}
		if got := w.Unwrap(); got != error(x.e) {
			t.Errorf("P701 Unwrap of %s: %v", x.want, got)
		}
		if !errors.Is(w, x.e) || errors.Is(w, api.ErrTerm) {
			t.Errorf("P701 errors.Is of %s", x.want)
		}
	}
}

// P701: a source that has no tree has Parse's fault, one with a tree Check's.
func TestP701Source(t *testing.T) {
	for _, x := range []struct {
		source string
		want   string
	}{
		{"", "syntax at 0"},
		{"\x00", "char at 0"},
		{"-module(m). f() -> 01.", "number at 19"},
		{"-module(m). f() -> 'a.", "quote at 19"},
		{"-module(m). f() -> 1 +.", "syntax at 22"},
		{"-module(m). f(1 -> 2.", "syntax at 16"},
		{"-module(m). f() -> " + strings.Repeat("(", 300), "deep at 219"},
		{"-module(m). f() -> fun f/17.", "many at 25"},
		{strings.Repeat(" ", api.MaxSource+1), "long at 0"},
		{"-module(m). f() -> X. g() -> 1", "syntax at 30"}, // the grammar ahead of the walk
		{"-module(m). f() -> X.", "unbound at 19"},
		{"-module(m). f() -> X, 'a' b.", "syntax at 26"},
	} {
		y, err := check.Source(x.source)
		if err == nil || err.Error() != x.want || len(y.Nodes) != 0 || y.Root != 0 {
			t.Errorf("P701 %s: %v, %d nodes; want %s", said(x.source), err, len(y.Nodes), x.want)
		}
		faultOf(t, x.source)
	}
	for _, source := range []string{"-module(m).", "-module(m). f() -> 1.", "  -module('')  . %"} {
		if f := faultOf(t, source); f != (api.Fault{}) {
			t.Errorf("P701 %s: %v", source, f)
		}
	}
}

// P7: each error is its own.
func TestP7Errors(t *testing.T) {
	var a, b *check.Wrong
	for _, w := range []**check.Wrong{&a, &b} {
		if _, err := check.Source("-module(m). f() -> X."); !errors.As(err, w) {
			t.Fatal(err)
		}
	}
	a.Fault = api.Fault{}
	if b.Error() != "unbound at 19" {
		t.Errorf("P7: %v", b)
	}
}
