package bif

import (
	"strconv"
	"strings"

	"exitwave/api"
	"exitwave/num"
	"exitwave/term"
)

// Builtins of numbers, and of what is written as bytes.

const (
	decimal     = "0123456789"
	hexadecimal = decimal + "abcdef"
	bitDigits   = 16 // of a float's bits
)

// abs: what num.Abs calls bad arithmetic is a bad argument here, since no operator was reckoned.
func (c call) abs() api.Term {
	x, e := num.Abs(c.l[0])
	must(e != api.ErrArith, api.ErrBad)
	return told(x, e)
}

func (c call) real() api.Term { return told(num.Real(c.l[0])) }

func (c call) whole() api.Term { return told(num.Whole(c.name, c.l[0])) }

// plain tells the argument, a number or an atom of a kind. One that is not right has no text.
func (c call) plain(kind int) api.Term {
	x := c.l[0]
	must(x.Kind == kind && term.Check(x) == api.OK, api.ErrBad)
	return x
}

func (c call) atomToList() api.Term { return listOf(c.plain(api.KAtom).S) }

func (c call) integerToList() api.Term { return listOf(num.Text(c.plain(api.KInt))) }

func (c call) floatToList() api.Term { return listOf(num.Text(c.plain(api.KFloat))) }

func (c call) listToAtom() api.Term {
	s := c.text()
	must(len(s) <= api.MaxAtom, api.ErrLimit)
	return term.Atom(s)
}

// listToInteger: of a text that is above or below all int64 ParseInt tells the last of these, which is no whole number either.
func (c call) listToInteger() api.Term {
	s := c.text()
	digits := strings.TrimPrefix(s, "-")
	must(digits != "" && hasOnly(digits, decimal), api.ErrBad)
	n, _ := strconv.ParseInt(s, 10, 64)
	return told(num.Int(n))
}

func (c call) bits() api.Term {
	s := c.text()
	must(len(s) == bitDigits && hasOnly(s, hexadecimal), api.ErrBad)
	u, _ := strconv.ParseUint(s, 16, 64)
	return told(num.Bits(u))
}

func hasOnly(s, digits string) bool { return strings.Trim(s, digits) == "" }

// listOf tells the bytes of a text.
func listOf(s string) api.Term {
	l := make([]api.Term, len(s))
	for i := range l {
		l[i] = number(int(s[i]))
	}
	return list(l)
}

// text tells the text whose bytes the argument has as its elements.
func (c call) text() string {
	var s strings.Builder
	for _, x := range c.elements(0, api.KList) {
		must(x.Kind == api.KInt && x.N >= 0 && x.N <= 255, api.ErrBad)
		s.WriteByte(byte(x.N))
	}
	return s.String()
}
