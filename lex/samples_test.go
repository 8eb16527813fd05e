package lex_test

import (
	"fmt"
	"math"
	"math/rand"
	"slices"
	"strings"
	"testing"

	"exitwave/api"
	"exitwave/lex"
)

const (
	smalls   = "abcdefghijklmnopqrstuvwxyz"
	capitals = "ABCDEFGHIJKLMNOPQRSTUVWXYZ"
	decimals = "0123456789"
	hexes    = "0123456789abcdef"
)

var (
	minus     = math.Copysign(0, -1)
	keptWords = strings.Fields("after andalso begin case catch div end fun not of orelse receive rem try when")
	allSigns  = strings.Fields("=:= =/= -> == /= =< >= ++ ( ) { } [ ] , ; . | = < > + - * / ! :")
	blanks    = []string{"\t", "\n", "\r", " "}
)

func atom(at int, s string) api.Token { return api.Token{Kind: api.TAtom, S: s, At: at} }

func variable(at int, s string) api.Token { return api.Token{Kind: api.TVar, S: s, At: at} }

func whole(at int, n int64) api.Token { return api.Token{Kind: api.TInt, N: n, At: at} }

func float(at int, f float64) api.Token { return api.Token{Kind: api.TFloat, F: f, At: at} }

func text(at int, s string) api.Token { return api.Token{Kind: api.TString, S: s, At: at} }

func sign(at int, s string) api.Token { return api.Token{Kind: api.TSign, S: s, At: at} }

func kept(at int, s string) api.Token { return api.Token{Kind: api.TWord, S: s, At: at} }

// eachByte is all of them, each as a text.
func eachByte() []string {
	var l []string
	for c := range 256 {
		l = append(l, string([]byte{byte(c)}))
	}
	return l
}

// alike tells whether two tokens are the same, field by field, floats by their bits.
func alike(a, b api.Token) bool {
	fa, fb := math.Float64bits(a.F), math.Float64bits(b.F)
	a.F, b.F = 0, 0
	return a == b && fa == fb
}

// said is the front of what something looks like.
func said(what any) string {
	s := fmt.Sprintf("%+v", what)
	if text, is := what.(string); is {
		s = fmt.Sprintf("%q", text)
	}
	return strings.ToValidUTF8(s[:min(len(s), 300)], "?")
}

// expect asks for these tokens, and for the end behind them.
func expect(t *testing.T, source string, want ...api.Token) {
	t.Helper()
	want = append(slices.Clone(want), api.Token{Kind: api.TEnd, At: len(source)})
	got, f := lex.Tokens(source)
	if f != (api.Fault{}) || !slices.EqualFunc(got, want, alike) {
		t.Errorf("P501 %s: %s, %v; want %s", said(source), said(got), f, said(want))
	}
}

// expectFault asks for a fault, and for no tokens beside it (P4).
func expectFault(t *testing.T, source string, e api.Errno, at int) {
	t.Helper()
	got, f := lex.Tokens(source)
	if len(got) != 0 || f != (api.Fault{Err: e, At: at}) {
		t.Errorf("P502 %s: %s, %v; want %v at %d", said(source), said(got), f, e, at)
	}
}

// pieces: tokens, what stands between them, and what is nearly a token, as sources are put together of them.
func pieces() []string {
	l := []string{
		"a", "aB_@9", "endx", "en", "module", "X", "_", "_@", "Xend", strings.Repeat("a", api.MaxAtom), strings.Repeat("V", api.MaxAtom+1),
		"0", "1", "10", "576460752303423487", "0.5", "1.5", "1.", "12345678901234.5", "#3ff8000000000000", "#8000000000000000", "#7fefffffffffffff",
		"''", "'a'", "'end'", "'a b'", `'\x41\''`, `"\""`, `""`, `"a"`, "\"\xc3\xa9\xff\"", "'%'", "\"\n\"",
		"%", "%c\n", "% 'a \" ^\n", "%\xff\n", "@", "^",
	}
	l = append(l, blanks...)
	l = append(l, keptWords...)
	return append(l, allSigns...)
}

// wrongPieces: what is no token; some would be one with something behind.
func wrongPieces() []string {
	return []string{
		"01", "576460752303423488", "1.234567890123456", "#", "#3ff800000000000", "#3FF8000000000000", "#7ff0000000000000",
		"'", "\"", `'\q'`, `"\x4"`, `\`, "\x00", "\x0b", "\x7f", "\x80", "\xc3\xa9", "$", "&", "?", "~", "`", strings.Repeat("b", api.MaxAtom+1),
	}
}

// somehow puts a source together by chance; now and then with what is wrong in it.
func somehow(r *rand.Rand) string {
	right, wrong := pieces(), wrongPieces()
	var s strings.Builder
	for range r.Intn(12) {
		switch {
		case r.Intn(20) == 0:
			s.WriteString(wrong[r.Intn(len(wrong))])
		case r.Intn(40) == 0:
			s.WriteByte(byte(r.Intn(256)))
		default:
			s.WriteString(right[r.Intn(len(right))])
		}
		if r.Intn(2) == 0 {
			s.WriteString(" ")
		}
	}
	return s.String()
}
