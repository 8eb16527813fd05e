package check_test

import (
	"math/rand"
	"slices"
	"strings"
	"testing"

	"exitwave/api"
	"exitwave/check"
	"exitwave/gram"
)

// mended takes a source's fault away, if it is one that another token in its place takes away.
func mended(source string, f api.Fault) (string, bool) {
	at := f.At
	switch f.Err {
	case api.ErrUnbound, api.ErrUnsafe:
		return source[:at] + "1" + source[at+1:], true
	case api.ErrCall:
		if i := strings.Index(source[at:], "z"); i >= 0 && i < 5 {
			return source[:at+i] + "q" + source[at+i+1:], source[at] != 'z'
		}
	}
	return "", false
}

// compare holds a source against the oracle, and tells its fault.
func compare(t *testing.T, source string) api.Fault {
	t.Helper()
	x, f := gram.Parse(source)
	got := faultOf(t, source)
	if f.Err != api.OK {
		if got != f {
			t.Errorf("P701 %s: %v; want Parse's %v", said(source), got, f)
		}
		return f
	}
	want, free := foreseen(x)
	if got != want {
		t.Errorf("P701 %s: %v at %d; want %v at %d", said(source), got.Err, got.At, want.Err, want.At)
	}
	for n, names := range free {
		if l := check.Free(x, n); !slices.Equal(l, names) {
			t.Errorf("P703 %s: the fun at %d: %v; want %v", said(source), x.Nodes[n].At, l, names)
		}
	}
	return want
}

// Sources that are made by chance, and each again when its first fault is mended, up to the one that is right.
func TestP701Grown(t *testing.T) {
	r := rand.New(rand.NewSource(7010))
	counts := map[api.Errno]int{}
	funs := 0
	for range 2000 {
		source := grown(r, 5+r.Intn(40))
		for going := true; going && !t.Failed(); {
			f := compare(t, source)
			counts[f.Err]++
			if f.Err == api.OK {
				funs += strings.Count(source, "fun(")
			}
			source, going = mended(source, f)
		}
	}
	for _, e := range []api.Errno{api.OK, api.ErrHead, api.ErrTwice, api.ErrPattern, api.ErrGuard, api.ErrUnbound, api.ErrUnsafe, api.ErrCall} {
		if counts[e] < 20 {
			t.Errorf("%v: %d times among %v: too few to tell", e, counts[e], counts)
		}
	}
	if counts[api.ErrSyntax] > 0 || funs < 300 {
		t.Errorf("the sources are not as meant: %v, %d funs", counts, funs)
	}
}

// forms: what X and Y may come to be bound in; @ is a part.
var forms = []string{
	"1", "X", "X = 1", "{@, @}", "@ andalso @", "catch @", "begin @, @ end", "case @ of 1 -> @; X -> @ end", "case @ of 1 -> @; 2 -> @ end", "case 1 of _ -> @ end",
	"receive 1 -> @ after 0 -> @ end", "receive 1 -> @ after infinity -> @ end", "receive X -> @; 2 -> @ end", "receive after 0 -> @ end", "receive after infinity -> @ end",
	"try @ of 1 -> @ catch 2 -> @ after @ end", "try @ of X -> @; 2 -> @ after 1 end", "try @ catch X -> @; 2 -> @ end", "fun(X) -> @; (_) -> @ end", "fun() -> @ end", "X = @", "f(@)", "case @ of {X, _} when X -> 1; _ -> @ end",
}

// filled puts texts into the @ of a form, in turn: the k-th way to do so.
func filled(form string, parts []string, k int) string {
	var s strings.Builder
	for _, c := range form {
		if c == '@' {
			s.WriteString("(" + parts[k%len(parts)] + ")")
			k /= len(parts)
		} else {
			s.WriteRune(c)
		}
	}
	return s.String()
}

// ways tells how many ways there are to fill a form.
func ways(form string, parts []string) int {
	n := 1
	for range strings.Count(form, "@") {
		n *= len(parts)
	}
	return n
}

// All forms with all small ones in them, and what is behind; and forms in forms.
func TestP701Forms(t *testing.T) {
	leaves := []string{"1", "X = 1", "catch X = 1", "X"}
	var twos []string
	for _, form := range forms {
		for k := range ways(form, leaves) {
			x := filled(form, leaves, k)
			for _, behind := range []string{"X", "X = 1", "fun(X) -> X end", "Y = X, Y"} {
				compare(t, front+"f(_) -> "+x+", "+behind+".")
			}
			compare(t, front+"f(X) -> "+x+", fun() -> X end.")
			if k%7 == 0 {
				twos = append(twos, x)
			}
		}
	}
	r := rand.New(rand.NewSource(7011))
	for range 15000 {
		form := forms[r.Intn(len(forms))]
		x := filled(form, twos, r.Intn(ways(form, twos)))
		compare(t, front+"f(_) -> "+x+", X.")
	}
}
