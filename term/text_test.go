package term_test

import (
	"fmt"
	"strings"
	"testing"

	"exitwave/api"
	"exitwave/term"
)

func TestP203Table(t *testing.T) {
	for _, c := range []struct {
		x    api.Term
		want string
	}{
		{whole(0), "0"},
		{whole(-12), "-12"},
		{whole(api.MinInt), "-576460752303423488"},
		{float(1.5), "#3ff8000000000000"},
		{float(0), "#0000000000000000"},
		{float(minus), "#8000000000000000"},
		{ref(0), "#Ref0"},
		{ref(1 << 40), "#Ref1099511627776"},
		{pid(12), "#Pid12"},
		{fun(3), "#Fun3"},
		{fun(3, whole(1)), "#Fun3[1]"},
		{fun(3, atom("a"), fun(4, list())), "#Fun3[a,#Fun4[[]]]"},
		{tuple(), "{}"},
		{tuple(atom("a")), "{a}"},
		{tuple(atom("a"), tuple(), list()), "{a,{},[]}"},
		{list(), "[]"},
		{list(whole(1), float(1), pid(1)), "[1,#3ff0000000000000,#Pid1]"},
		{list(list(list()), atom(",")), "[[[]],',']"},
	} {
		expectText(t, c.x, c.want)
	}
}

func expectText(t *testing.T, x api.Term, want string) {
	t.Helper()
	if s, e := term.Text(x); s != want || e != api.OK {
		t.Errorf("P203 Text(%s): %.200q, %v; want %.200q", said(x), s, e, want)
	}
}

func TestP203Atoms(t *testing.T) {
	for _, s := range []string{"a", "z", "ab", "aZ", "a0", "a_", "a@", "abcXYZ019_@", "endx", "ends", "enD", "e", "en", "ofof", "normal", strings.Repeat("z", 64)} {
		expectText(t, atom(s), s)
	}
	for _, s := range []string{"after", "andalso", "begin", "case", "catch", "div", "end", "fun", "not", "of", "orelse", "receive", "rem", "try", "when"} {
		expectText(t, atom(s), "'"+s+"'")
		expectText(t, atom(s+"s"), s+"s")
	}
	for _, c := range [][2]string{
		{"", "''"}, {"A", "'A'"}, {"_", "'_'"}, {"@", "'@'"}, {"0", "'0'"}, {"9a", "'9a'"}, {"_a", "'_a'"}, {"a b", "'a b'"}, {" ", "' '"}, {"a-b", "'a-b'"}, {"a.b", "'a.b'"},
		{"'", `'\''`}, {`\`, `'\\'`}, {`a'\b`, `'a\'\\b'`}, {`\x41`, `'\\x41'`}, {`"`, `'"'`},
		{"\n", `'\x0a'`}, {"\t", `'\x09'`}, {"\x00", `'\x00'`}, {"\x1f", `'\x1f'`}, {"~", "'~'"}, {"\x7f", `'\x7f'`}, {"\x80", `'\x80'`}, {"\xff", `'\xff'`}, {"é", `'\xc3\xa9'`}, {"aé", `'a\xc3\xa9'`}, {"ª", `'\xc2\xaa'`},
		{"a\n", `'a\x0a'`}, {"a\x00", `'a\x00'`}, {"end ", "'end '"}, {"End", "'End'"},
	} {
		expectText(t, atom(c[0]), c[1])
	}
}

// Each byte at each place of an atom.
func TestP203Bytes(t *testing.T) {
	const letters = "abcdefghijklmnopqrstuvwxyz"
	behind := letters + strings.ToUpper(letters) + "0123456789_@"
	for c := range 256 {
		b := string([]byte{byte(c)})
		inside := b
		switch {
		case c == '\\' || c == '\'':
			inside = `\` + b
		case c < 32 || c > 126:
			inside = fmt.Sprintf(`\x%02x`, c)
		}
		first, second := "'"+inside+"'", "'x"+inside+"'"
		if strings.Contains(letters, b) {
			first = b
		}
		if strings.Contains(behind, b) {
			second = "x" + b
		}
		expectText(t, atom(b), first)
		expectText(t, atom("x"+b), second)
	}
}

// A list of n atoms of 31 bytes each has a text of 32 * n + 1 bytes: a bracket or a comma ahead of each, and one bracket more.
func TestP203Long(t *testing.T) {
	const most = 1 << 20
	atoms := times(1<<15, atom(strings.Repeat("a", 31)))
	if s, e := term.Text(list(atoms...)); s != "" || e != api.ErrLong {
		t.Errorf("P203: a text of 1 << 20 bytes and one more: %d, %v; want long", len(s), e)
	}
	atoms[77] = atom(strings.Repeat("a", 30))
	if s, e := term.Text(list(atoms...)); len(s) != most || e != api.OK {
		t.Errorf("P203: a text of 1 << 20 bytes: %d, %v", len(s), e)
	}
	atoms[77] = atom(strings.Repeat("a", 28) + "B'")
	if s, e := term.Text(list(atoms...)); s != "" || e != api.ErrLong {
		t.Errorf("P203: a text of 1 << 20 bytes and three of quotes: %d, %v; want long", len(s), e)
	}
	longest := tuple(times(1<<16-1, atom(strings.Repeat("\xff", 64)))...)
	if s, e := term.Text(longest); s != "" || e != api.ErrLong {
		t.Errorf("P203: the longest text: %d, %v; want long", len(s), e)
	}
}

func TestP203Refuses(t *testing.T) {
	for _, x := range wrongs() {
		if s, e := term.Text(x); s != "" || e != api.ErrTerm {
			t.Errorf("P203 Text(%s): %q, %v; want term", said(x), s, e)
		}
	}
	for _, x := range beyond() {
		if s, e := term.Text(x); s != "" || e != api.ErrLimit {
			t.Errorf("P203 Text(%s): %.100q, %v; want system_limit", said(x), s, e)
		}
	}
}
