package lex_test

import (
	"slices"
	"strings"
	"testing"

	"exitwave/api"
	"exitwave/lex"
)

// Sources of MaxSource bytes are gone through to their end; those of one more are not looked at.
func TestP502Long(t *testing.T) {
	const n = api.MaxSource
	for _, source := range []string{
		strings.Repeat(" ", n), strings.Repeat("%", n), strings.Repeat("%\n", n/2), strings.Repeat("A", n), strings.Repeat("!", n), strings.Repeat("=:==", n/4), strings.Repeat("1.", n/2),
		`"` + strings.Repeat("\xff", n-2) + `"`, `"` + strings.Repeat(`\n`, n/2-1) + `"`, strings.Repeat("''", n/2), strings.Repeat("1.5 ", n/4), strings.Repeat("\n", n-1) + "a",
		strings.Repeat("^", n), strings.Repeat(" ", n-1) + "^", `"` + strings.Repeat("a", n-1), "'" + strings.Repeat("a", n-2) + "'", strings.Repeat("0", n), strings.Repeat("a", n), strings.Repeat("#", n), strings.Repeat(" ", n-1) + "'",
	} {
		if len(source) != n {
			t.Fatalf("%d bytes; want %d", len(source), n)
		}
		likeOracle(t, source)
		expectFault(t, source+" ", api.ErrLong, 0)
		expectFault(t, " "+source, api.ErrLong, 0)
		expectFault(t, source+source+source, api.ErrLong, 0)
	}
	expect(t, strings.Repeat("A", n), variable(0, strings.Repeat("A", n)))
	expect(t, strings.Repeat("\n", n))
	expect(t, strings.Repeat(" ", n-1)+"!", sign(n-1, "!"))
	expectFault(t, strings.Repeat(" ", n-1)+"^", api.ErrChar, n-1)
	expectFault(t, "^"+strings.Repeat(" ", n), api.ErrLong, 0)
	expectFault(t, string(make([]byte, n+1)), api.ErrLong, 0)
	expectFault(t, string(make([]byte, n)), api.ErrChar, 0)
}

// Of several faults the first one is told, at the first byte of what would be the token (P6).
func TestP502FirstFault(t *testing.T) {
	faults := map[string]api.Errno{
		"^": api.ErrChar, "\xff": api.ErrChar, `\`: api.ErrChar, "01": api.ErrNumber, "1.2345678901234567": api.ErrNumber, "#12": api.ErrNumber, "999999999999999999": api.ErrNumber,
		`'\q'`: api.ErrQuote, `"abc\x4"`: api.ErrQuote, strings.Repeat("a", 65): api.ErrQuote, "'" + strings.Repeat("a", 65) + "'": api.ErrQuote,
	}
	for a, e := range faults {
		for b := range faults {
			expectFault(t, a+" "+b, e, 0)
			expectFault(t, "f(X) -> "+a+" "+b+".", e, 8)
			expectFault(t, "%'^01\n\t"+a+" 'x "+b, e, 7)
			expectFault(t, `'\x41' "é" `+a+"\n"+b, e, 12)
		}
		expectFault(t, a+" 'x", e, 0)
		expectFault(t, "'x "+strings.ReplaceAll(a, "'", ""), api.ErrQuote, 0)
	}
	expectFault(t, `"a 01 ^`, api.ErrQuote, 0)
	expectFault(t, "a^", api.ErrChar, 1)
	expectFault(t, "=^=", api.ErrChar, 1)
	expectFault(t, "1.5^", api.ErrChar, 3)
	expectFault(t, "é", api.ErrChar, 0)
	expectFault(t, "aé", api.ErrChar, 1)
	expectFault(t, "'é'é", api.ErrChar, 4)
	expectFault(t, "a@ @", api.ErrChar, 3)
}

// Beside a fault there are no tokens, and without one the fault is zero (P4); once more the same is told (P3).
func TestP502OneOfBoth(t *testing.T) {
	for _, source := range append(pieces(), wrongPieces()...) {
		for _, front := range []string{"", "a ", "f(X) -> "} {
			l, f := lex.Tokens(front + source)
			if (f.Err == api.OK) != (len(l) > 0) || f.Err == api.OK && f.At != 0 {
				t.Errorf("P4 %s: %s, %v", said(front+source), said(l), f)
			}
			again, g := lex.Tokens(front + source)
			if f != g || !slices.EqualFunc(l, again, alike) {
				t.Errorf("P3 %s: %s, %v; then %s, %v", said(front+source), said(l), f, said(again), g)
			}
		}
	}
}
