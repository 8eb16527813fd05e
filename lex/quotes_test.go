package lex_test

import (
	"fmt"
	"strings"
	"testing"

	"exitwave/api"
)

// marked is what stands between two marks, and the token that it makes.
type marked struct {
	mark  string
	token func(int, string) api.Token
}

func marks() []marked { return []marked{{"'", atom}, {`"`, text}} }

func TestP501Quotations(t *testing.T) {
	for _, q := range marks() {
		for _, s := range []string{"", "a", "A b", "end", "1.5", "#", "%", "%\n", "\n", "\r\n", "^", "\x00", "\xff", "é", "\xc3", "\xa9\xc3", "\u2028", "=:=", "a.\nb", "x41"} {
			source := q.mark + s + q.mark
			n := len(source)
			expect(t, source, q.token(0, s))
			expect(t, " "+source+"+", q.token(1, s), sign(1+n, "+"))
			expect(t, source+source, q.token(0, s), q.token(n, s))
			expect(t, "a"+source+"b", atom(0, "a"), q.token(1, s), atom(1+n, "b"))
			expectFault(t, source[:n-1], api.ErrQuote, 0)
			expectFault(t, source+q.mark, api.ErrQuote, n)
		}
	}
	expect(t, `'"'`, atom(0, `"`))
	expect(t, `"'"`, text(0, `'`))
	expect(t, `'""'"''"`, atom(0, `""`), text(4, `''`))
	expect(t, `'a'"a"'a'`, atom(0, "a"), text(3, "a"), atom(6, "a"))
	expectFault(t, `'a"`, api.ErrQuote, 0)
	expectFault(t, `"a'`, api.ErrQuote, 0)
}

// Each byte stands for itself, but for the mark and the backslash.
func TestP501QuotedBytes(t *testing.T) {
	for _, q := range marks() {
		for _, c := range eachByte() {
			if c == q.mark || c == `\` {
				continue
			}
			expect(t, q.mark+c+q.mark, q.token(0, c))
			expect(t, q.mark+"a"+c+c+"b"+q.mark+".", q.token(0, "a"+c+c+"b"), sign(6, "."))
			expect(t, q.mark+c+"\xc3"+c+q.mark, q.token(0, c+"\xc3"+c))
		}
		expect(t, q.mark+q.mark, q.token(0, ""))
		expectFault(t, q.mark+`\`+q.mark, api.ErrQuote, 0)
		expectFault(t, q.mark+`\`, api.ErrQuote, 0)
	}
}

func TestP501Escapes(t *testing.T) {
	for _, q := range marks() {
		for e, s := range map[string]string{
			`\\`: `\`, `\'`: `'`, `\"`: `"`, `\n`: "\n", `\t`: "\t", `\x41`: "A", `\x00`: "\x00", `\xff`: "\xff", `\x27`: "'", `\x22`: `"`, `\x5c`: `\`, `\x0a`: "\n",
			`\\n`: `\n`, `\\\\`: `\\`, `\\x41`: `\x41`, `\\\x41`: `\A`, `\x5cn`: `\n`, `\x410`: "A0", `\x41\x42`: "AB", `\nn`: "\nn", `\'\"`: `'"`, `\xc3\xa9`: "é",
		} {
			source := q.mark + e + q.mark
			expect(t, source, q.token(0, s))
			expect(t, q.mark+"a"+e+"b"+e+q.mark+"c", q.token(0, "a"+s+"b"+s), atom(4+2*len(e), "c"))
			expectFault(t, source[:len(source)-1], api.ErrQuote, 0)
		}
		for c := range 256 {
			expect(t, fmt.Sprintf(`%s\x%02x%s`, q.mark, c, q.mark), q.token(0, string([]byte{byte(c)})))
		}
	}
}

// Which bytes may stand behind a backslash, and which behind that and an x.
func TestP502Escapes(t *testing.T) {
	for _, q := range marks() {
		for _, c := range eachByte() {
			if strings.Contains(`\'"nt`, c) {
				continue
			}
			expectFault(t, q.mark+`\`+c+q.mark, api.ErrQuote, 0)
			expectFault(t, "a "+q.mark+`b\`+c+"c"+q.mark, api.ErrQuote, 2)
			if strings.Contains(hexes, c) {
				continue
			}
			for _, d := range []string{"0", "9", "a", "f"} {
				expectFault(t, q.mark+`\x`+c+d+q.mark, api.ErrQuote, 0)
				expectFault(t, q.mark+`\x`+d+c+q.mark, api.ErrQuote, 0)
			}
		}
		for _, s := range []string{`\x`, `\x4`, `\X41`, `\x4A`, `\xA4`, `\xAB`, `\N`, `\T`, `\0`, `\101`, `\u0041`, `\ `, "\\\n", `\x+4`, `\x 4`, `\\\`, `\x4\x41`} {
			expectFault(t, q.mark+s+q.mark, api.ErrQuote, 0)
			expectFault(t, q.mark+s, api.ErrQuote, 0)
		}
	}
}

// An atom has at most 64 bytes, as they are told, not as they are written.
func TestP502LongAtoms(t *testing.T) {
	for _, n := range []int{1, 63, 64, 65, 66, 128, 1000, 16000} {
		name := strings.Repeat("b", n-1)
		for source, s := range map[string]string{
			"a" + name: "a" + name, "a" + strings.Repeat("@", n-1): "a" + strings.Repeat("@", n-1),
			"'a" + name + "'": "a" + name, "'" + name + "\xff'": name + "\xff",
			"'" + strings.Repeat(`\x41`, n) + "'": strings.Repeat("A", n), "'" + strings.Repeat(`\'`, n) + "'": strings.Repeat("'", n), "'" + strings.Repeat("\xc3", n) + "'": strings.Repeat("\xc3", n),
		} {
			if n <= api.MaxAtom {
				expect(t, source, atom(0, s))
				expect(t, "X="+source, variable(0, "X"), sign(1, "="), atom(2, s))
				continue
			}
			expectFault(t, source, api.ErrQuote, 0)
			expectFault(t, "X="+source+"^", api.ErrQuote, 2)
		}
		expect(t, "A"+name, variable(0, "A"+name))
		expect(t, "_"+name, variable(0, "_"+name))
		expect(t, `"a`+name+`"`, text(0, "a"+name))
		expect(t, `"`+strings.Repeat(`\x41`, n)+`"`, text(0, strings.Repeat("A", n)))
	}
	expect(t, "'"+strings.Repeat("é", 32)+"'", atom(0, strings.Repeat("é", 32)))
	expectFault(t, "'"+strings.Repeat("é", 33)+"'", api.ErrQuote, 0)
	expectFault(t, "'"+strings.Repeat("é", 32)+"a'", api.ErrQuote, 0)
	expect(t, strings.Repeat("e", 64)+"'a'", atom(0, strings.Repeat("e", 64)), atom(64, "a"))
	expectFault(t, strings.Repeat("end", 22), api.ErrQuote, 0)
}
