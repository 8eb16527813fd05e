package lex_test

import (
	"math"
	"math/rand"
	"slices"
	"strings"
	"testing"
	"unsafe"

	"exitwave/api"
	"exitwave/lex"
	"exitwave/term"
)

// rightSources: sources that have tokens.
func rightSources() []string {
	l := []string{
		"", "f(X)->X+1.5.%e", "-module(m).\nf(X) when X > 0 -> X - 1;\nf(_) -> receive {a, [B|_]} -> B after 0 -> 'a b' end. % end",
		"1.5.6", "1..5", "=:==", "#3ff80000000000001", "a'b'\"c\"_d@", "%\n%\n1%", "'\\x41%'%'\n\"\\\"\"end", "%\xff\na", "--->>=",
	}
	r := rand.New(rand.NewSource(503))
	for len(l) < 4000 {
		s := somehow(r)
		if _, f := lex.Tokens(s); f.Err == api.OK {
			l = append(l, s)
		}
	}
	return l
}

func tokensOf(t *testing.T, source string) []api.Token {
	t.Helper()
	l, f := lex.Tokens(source)
	if f != (api.Fault{}) || len(l) == 0 || l[len(l)-1] != (api.Token{Kind: api.TEnd, At: len(source)}) {
		t.Fatalf("P502 %s: %s, %v", said(source), said(l), f)
	}
	return l
}

// Tokens rise, and what stands from one to the next one tells that token alone.
func TestP503Alone(t *testing.T) {
	for _, source := range rightSources() {
		l := tokensOf(t, source)
		for i, x := range l[:len(l)-1] {
			end := l[i+1].At
			if x.At >= end {
				t.Errorf("P503 %s: %s do not rise", said(source), said(l))
				break
			}
			at := x.At
			x.At = 0
			for _, blank := range blanks {
				expect(t, source[at:end]+blank, x)
			}
		}
	}
}

// The end stands behind the last token; it is there just once.
func TestP503End(t *testing.T) {
	for _, source := range rightSources() {
		for i, x := range tokensOf(t, source) {
			if (x.Kind == api.TEnd) != (i == len(tokensOf(t, source))-1) {
				t.Errorf("P502 %s: the end stands at place %d", said(source), i)
			}
		}
	}
}

// Blanks more between tokens move them, and change nothing else.
func TestP503Blanks(t *testing.T) {
	r := rand.New(rand.NewSource(5030))
	for _, source := range rightSources() {
		l := tokensOf(t, source)
		var wide strings.Builder
		var want []api.Token
		from := 0
		for _, x := range l {
			wide.WriteString(source[from:x.At])
			from = x.At
			for range r.Intn(3) {
				wide.WriteString(blanks[r.Intn(len(blanks))])
			}
			x.At = wide.Len()
			want = append(want, x)
		}
		expect(t, wide.String(), want[:len(want)-1]...)
	}
}

// Kinds have the fields that the table names, and no others (P4).
func TestP4Fields(t *testing.T) {
	for _, source := range rightSources() {
		for _, x := range tokensOf(t, source) {
			y := api.Token{Kind: x.Kind, At: x.At}
			switch x.Kind {
			case api.TInt:
				y.N = x.N
			case api.TFloat:
				y.F = x.F
			case api.TAtom, api.TVar, api.TString, api.TSign, api.TWord:
				y.S = x.S
			}
			if !alike(x, y) {
				t.Errorf("P4 %s: %+v", said(source), x)
			}
		}
	}
}

// textTerms: right terms without references, funs, pids and MinInt.
func textTerms() []api.Term {
	whole := func(n int64) api.Term { return api.Term{Kind: api.KInt, N: n} }
	float := func(f float64) api.Term { return api.Term{Kind: api.KFloat, F: f} }
	tuple := func(l ...api.Term) api.Term { return api.Term{Kind: api.KTuple, L: l} }
	list := func(l ...api.Term) api.Term { return api.Term{Kind: api.KList, L: l} }
	l := []api.Term{
		whole(0), whole(7), whole(-7), whole(api.MaxInt), whole(-api.MaxInt), float(0), float(minus), float(1.5), float(-1e300), float(math.MaxFloat64), float(math.SmallestNonzeroFloat64),
		tuple(), list(), tuple(list()), list(whole(-1), whole(-2)), tuple(term.Atom("a"), list(float(1), term.Atom("A b")), term.Atom("end")),
	}
	for _, c := range eachByte() {
		l = append(l, term.Atom(c), term.Atom("a"+c), term.Atom(strings.Repeat(c, api.MaxAtom)))
	}
	for _, w := range keptWords {
		l = append(l, term.Atom(w), term.Atom(w+"s"), term.Atom(w[1:]))
	}
	deep := whole(1)
	for range api.MaxDepth - 1 {
		deep = tuple(deep)
	}
	return append(l, deep, list(slices.Repeat([]api.Term{term.Atom("a")}, 30000)...), term.Atom(""), term.Atom("é"), term.Atom("ab@_9Z"), term.Atom(`\x41`))
}

func TestP504(t *testing.T) {
	for _, x := range textTerms() {
		s, e := term.Text(x)
		if e != api.OK {
			t.Fatalf("P504: %v of %s", e, said(x))
		}
		l := tokensOf(t, s)
		switch {
		case x.Kind == api.KAtom:
			expect(t, s, atom(0, x.S))
		case x.Kind == api.KFloat:
			expect(t, s, float(0, x.F))
		case x.Kind == api.KInt && x.N >= 0:
			expect(t, s, whole(0, x.N))
		case x.Kind == api.KInt:
			expect(t, s, sign(0, "-"), whole(1, -x.N))
		case len(l) < 3 || l[0].S != s[:1] || l[len(l)-2].S != s[len(s)-1:]:
			t.Errorf("P504 %s: %s", said(s), said(l))
		}
	}
}

// What P504 leaves out has no tokens.
func TestP504LeftOut(t *testing.T) {
	for _, x := range []struct {
		t  api.Term
		at int
	}{
		{api.Term{Kind: api.KInt, N: api.MinInt}, 1}, {api.Term{Kind: api.KRef, N: 1}, 0}, {api.Term{Kind: api.KPid, N: 1}, 0}, {api.Term{Kind: api.KFun, N: 1}, 0},
	} {
		s, e := term.Text(x.t)
		if e != api.OK {
			t.Fatal(e)
		}
		expectFault(t, s, api.ErrNumber, x.at)
		expectFault(t, "["+s+"]", api.ErrNumber, x.at+1)
	}
}

// within tells whether what s shows lies in the memory of source.
func within(s, source string) bool {
	if s == "" || source == "" {
		return false
	}
	from := uintptr(unsafe.Pointer(unsafe.StringData(source)))
	at := uintptr(unsafe.Pointer(unsafe.StringData(s)))
	return at >= from && at < from+uintptr(len(source))
}

// An answer is memory of its own: not the source's, and not another answer's.
func TestP2(t *testing.T) {
	for _, source := range rightSources() {
		source = strings.Clone(source)
		before := strings.Clone(source)
		l := tokensOf(t, source)
		for _, x := range l {
			if within(x.S, source) {
				t.Errorf("P2 %s: %+v shares the source's memory", said(source), x)
			}
		}
		want := slices.Clone(l)
		again := tokensOf(t, source)
		for i := range l[:cap(l)] {
			l[:cap(l)][i] = api.Token{Kind: -1, S: "over", N: -1, F: -1, At: -1}
		}
		if source != before || !slices.EqualFunc(again, want, alike) || !slices.EqualFunc(tokensOf(t, source), want, alike) {
			t.Errorf("P2 %s: an answer changes with an earlier one", said(source))
		}
	}
}
