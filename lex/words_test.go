package lex_test

import (
	"slices"
	"strings"
	"testing"

	"exitwave/api"
	"exitwave/lex"
)

func TestP501Kept(t *testing.T) {
	for _, w := range keptWords {
		if !lex.Kept(w) {
			t.Errorf("P501 Kept(%q): false", w)
		}
		for _, s := range nearly(w) {
			if lex.Kept(s) {
				t.Errorf("P501 Kept(%q): true", s)
			}
		}
	}
	for _, s := range []string{"", "module", "and", "or", "if", "xor", "band", "maybe", "infinity", "END", "after andalso", "\x00", strings.Repeat("end", 30000)} {
		if lex.Kept(s) {
			t.Errorf("P501 Kept(%.20q): true", s)
		}
	}
}

// nearly tells w with one letter more, less, or another one.
func nearly(w string) []string {
	l := []string{strings.ToUpper(w), strings.ToUpper(w[:1]) + w[1:], w + " ", " " + w, w + "\n", "'" + w + "'", w + w}
	for i := range len(w) + 1 {
		l = append(l, w[:i]+"x"+w[i:], w[:i]+"_"+w[i:])
	}
	for i := range w {
		l = append(l, w[:i]+w[i+1:], w[:i]+"z"+w[i+1:], w[:i]+strings.ToUpper(w[i:i+1])+w[i+1:])
	}
	return slices.DeleteFunc(l, func(s string) bool { return slices.Contains(keptWords, s) })
}

func TestP501KeptWords(t *testing.T) {
	for _, w := range keptWords {
		n := len(w)
		expect(t, w, kept(0, w))
		expect(t, " "+w+"("+w, kept(1, w), sign(n+1, "("), kept(n+2, w))
		expect(t, "'"+w+"'", atom(0, w))
		expect(t, `"`+w+`"`, text(0, w))
		expect(t, w+"'a'", kept(0, w), atom(n, "a"))
		expect(t, "_"+w, variable(0, "_"+w))
		expect(t, strings.ToUpper(w[:1])+w[1:], variable(0, strings.ToUpper(w[:1])+w[1:]))
		for _, c := range strings.Split(smalls+capitals+decimals+"_@", "") {
			expect(t, w+c, atom(0, w+c))
		}
		for _, c := range strings.Split(smalls, "") {
			expect(t, c+w, atom(0, c+w))
		}
		expect(t, w[:n-1], atom(0, w[:n-1]))
		expect(t, w[1:], atom(0, w[1:]))
	}
}

// For each byte: what begins with it, where it stands alone.
func TestP501First(t *testing.T) {
	for _, c := range eachByte() {
		switch {
		case strings.Contains(smalls, c):
			expect(t, c, atom(0, c))
		case strings.Contains(capitals+"_", c):
			expect(t, c, variable(0, c))
		case strings.Contains(decimals, c):
			expect(t, c, whole(0, int64(c[0]-'0')))
		case strings.Contains("(){}[],;.|=<>+-*/!:", c):
			expect(t, c, sign(0, c))
		case strings.Contains("\t\n\r %", c):
			expect(t, c)
		case c == "#":
			expectFault(t, c, api.ErrNumber, 0)
		case c == "'" || c == `"`:
			expectFault(t, c, api.ErrQuote, 0)
		default:
			expectFault(t, c, api.ErrChar, 0)
			expectFault(t, "a "+c+"a", api.ErrChar, 2)
			expectFault(t, "%\n'a'"+c, api.ErrChar, 5)
		}
	}
}

// Which bytes go on with what begins as an atom, or as a variable.
func TestP501Behind(t *testing.T) {
	for _, c := range eachByte() {
		for _, front := range []string{"a", "zZ9", "aft", "_", "A", "Z_@0", "Aft"} {
			first := atom
			if strings.Contains(capitals+"_", front[:1]) {
				first = variable
			}
			if strings.Contains(smalls+capitals+decimals+"_@", c) {
				expect(t, front+c, first(0, front+c))
				expect(t, front+c+"b"+c, first(0, front+c+"b"+c))
				continue
			}
			l, f := lex.Tokens(front + c)
			if f.Err == api.OK && l[0] != first(0, front) || f.Err != api.OK && f.At != len(front) {
				t.Errorf("P501 %q: %s, %v; want %q alone", front+c, said(l), f, front)
			}
		}
	}
}

func TestP501Blanks(t *testing.T) {
	expect(t, "")
	for _, a := range blanks {
		expect(t, a)
		expect(t, a+"a"+a, atom(1, "a"))
		expect(t, "a"+a+"b", atom(0, "a"), atom(2, "b"))
		expect(t, "="+a+":="+a+"1"+a+".5", sign(0, "="), sign(2, ":"), sign(3, "="), whole(5, 1), sign(7, "."), whole(8, 5))
		expect(t, "end"+a+"x", kept(0, "end"), atom(4, "x"))
		for _, b := range blanks {
			expect(t, a+b)
			expect(t, a+b+"X"+b+a+b+"1", variable(2, "X"), whole(6, 1))
		}
	}
	expect(t, strings.Repeat("\t\n\r ", 1000)+".", sign(4000, "."))
	for _, c := range []string{"\x00", "\x08", "\x0b", "\x0c", "\x0e", "\x1f", "\x7f", "\x85", "\xa0", "\u00a0", "\u0085", "\u2028", "\ufeff"} {
		expectFault(t, c, api.ErrChar, 0)
		expectFault(t, "a "+c+" b", api.ErrChar, 2)
	}
}

func TestP501Comments(t *testing.T) {
	expect(t, "%")
	expect(t, "%%%")
	expect(t, "%\n")
	expect(t, "%a")
	expect(t, "a%", atom(0, "a"))
	expect(t, "a%b", atom(0, "a"))
	expect(t, "a%b\nc", atom(0, "a"), atom(4, "c"))
	expect(t, "a%b\rc\nd", atom(0, "a"), atom(6, "d"))
	expect(t, "%a%b\n%c\n\n%\nd%e", atom(11, "d"))
	expect(t, "1%.5\n.5", whole(0, 1), sign(5, "."), whole(6, 5))
	expect(t, "=%\n=", sign(0, "="), sign(3, "="))
	expect(t, "end%\nx", kept(0, "end"), atom(5, "x"))
	expect(t, "%'\n'a%b'%'", atom(3, "a%b"))
	expect(t, "\"%\n\"", text(0, "%\n"))
	expectFault(t, "%'\n'", api.ErrQuote, 3)
	expectFault(t, "%^\n^", api.ErrChar, 3)
	for _, c := range eachByte() {
		if c != "\n" {
			expect(t, "a%"+c+"b", atom(0, "a"))
			expect(t, "a%"+c+"\n"+"b", atom(0, "a"), atom(4, "b"))
		}
	}
}

func TestP501Signs(t *testing.T) {
	for _, s := range allSigns {
		n := len(s)
		expect(t, s, sign(0, s))
		expect(t, s+" "+s, sign(0, s), sign(n+1, s))
		expect(t, "a"+s+"X", atom(0, "a"), sign(1, s), variable(n+1, "X"))
		expect(t, s+"1", sign(0, s), whole(n, 1))
		expect(t, s+"%"+s, sign(0, s))
	}
}

// firstSigns takes what is made of signs alone to pieces: at each place the first of allSigns that stands there.
func firstSigns(s string) []api.Token {
	var l []api.Token
	for at := 0; at < len(s); {
		k := slices.IndexFunc(allSigns, func(x string) bool { return strings.HasPrefix(s[at:], x) })
		l = append(l, sign(at, allSigns[k]))
		at += len(allSigns[k])
	}
	return l
}

func TestP501SignsSideBySide(t *testing.T) {
	for _, a := range allSigns {
		for _, b := range allSigns {
			expect(t, a+b, firstSigns(a+b)...)
			for _, c := range allSigns {
				expect(t, a+b+c, firstSigns(a+b+c)...)
			}
		}
	}
	for s, want := range map[string]string{
		"=:==": "=:= =", "=/==": "=/= =", "=/=/=": "=/= /=", "=:=:=": "=:= : =", "===": "== =", "====": "== ==", "==:=": "== : =", "==/=": "== /=", "=/": "= /", "=:": "= :",
		"=:/=": "= : /=", "=<=": "=< =", "<=": "< =", "=<>": "=< >", ">==": ">= =", ">=<": ">= <", "=>": "= >", "->>": "-> >", "-->": "- ->", "->=": "-> =", "-=": "- =",
		"+++": "++ +", "++++": "++ ++", "+-+": "+ - +", "/==": "/= =", "//=": "/ /=", "..": ". .", "::": ": :", "!=": "! =", "||": "| |", "<-": "< -", "<<>>": "< < > >", "<->": "< ->", "[|]": "[ | ]",
	} {
		var l []api.Token
		at := 0
		for _, x := range strings.Fields(want) {
			l = append(l, sign(at, x))
			at += len(x)
		}
		expect(t, s, l...)
	}
}
