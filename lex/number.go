package lex

import (
	"math"

	"exitwave/api"
	"exitwave/num"
)

const (
	mostInt   = 18 // digits of MaxInt: more are above it
	mostFloat = 15 // digits of a float: so many are exact as a float64
	hexDigits = 16 // digits of a float's bits
)

func (s *scanner) number() (api.Token, api.Errno) {
	whole := s.take(isDigit)
	part := s.fraction()
	switch {
	case len(whole) > 1 && whole[0] == '0':
		return api.Token{}, api.ErrNumber
	case part == "":
		return wholeNumber(whole)
	}
	return float(whole, part)
}

// fraction tells the digits behind a point. A point without any is no part of the number: a clause may end with one.
func (s *scanner) fraction() string {
	ahead := *s
	if ahead.next() != '.' || !isDigit(ahead.peek()) {
		return ""
	}
	*s = ahead
	return s.take(isDigit)
}

func wholeNumber(digits string) (api.Token, api.Errno) {
	if len(digits) > mostInt {
		return api.Token{}, api.ErrNumber
	}
	n, e := num.Int(worth(digits))
	if e != api.OK {
		return api.Token{}, api.ErrNumber
	}
	return api.Token{Kind: api.TInt, N: n.N}, api.OK
}

// float divides once, and what it divides is exact: so the value is rounded once.
func float(whole, part string) (api.Token, api.Errno) {
	digits := whole + part
	if len(digits) > mostFloat {
		return api.Token{}, api.ErrNumber
	}
	return api.Token{Kind: api.TFloat, F: float64(worth(digits)) / math.Pow10(len(part))}, api.OK
}

// worth is handed so few digits that an int64 has room for them.
func worth(digits string) int64 {
	n := int64(0)
	for _, r := range digits {
		n = n*10 + int64(r-'0')
	}
	return n
}

// bits reads a float that is written as its bits.
func (s *scanner) bits() (api.Token, api.Errno) {
	s.next()
	u, right := s.hex(hexDigits)
	f, e := num.Bits(u)
	if !right || e != api.OK {
		return api.Token{}, api.ErrNumber
	}
	return api.Token{Kind: api.TFloat, F: f.F}, api.OK
}

// hex reads just so many digits; false, if not so many stand there.
func (s *scanner) hex(n int) (uint64, bool) {
	u := uint64(0)
	for range n {
		switch r := s.next(); {
		case isDigit(r):
			u = u<<4 | uint64(r-'0')
		case r >= 'a' && r <= 'f':
			u = u<<4 | uint64(r-'a'+10)
		default:
			return 0, false
		}
	}
	return u, true
}
