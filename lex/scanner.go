package lex

import (
	"unicode/utf8"

	"exitwave/api"
)

// none stands where a rune would, at the end of a source.
const none rune = -1

// scanner goes through a source by runes. A byte that is no part of a rune is passed over as one of its own, so that no byte is lost.
type scanner struct {
	source string
	at     int
}

// tokens goes from token to token: its labels are the states that it can be in.
func (s *scanner) tokens() ([]api.Token, api.Fault) {
	var all []api.Token
	var t api.Token
	var e api.Errno
	var at int

between:
	s.take(isBlank)
	at = s.at
	switch r := s.peek(); {
	case r == none:
		goto end
	case r == '%':
		goto comment
	case isSmall(r):
		goto word
	case isCapital(r) || r == '_':
		goto variable
	case isDigit(r):
		goto number
	case r == '#':
		goto bits
	case r == '\'' || r == '"':
		goto quotation
	}
	goto sign

comment:
	s.take(isInLine)
	goto between
word:
	t, e = s.word()
	goto lay
variable:
	t, e = s.variable()
	goto lay
number:
	t, e = s.number()
	goto lay
bits:
	t, e = s.bits()
	goto lay
quotation:
	t, e = s.quotation()
	goto lay
sign:
	t, e = s.sign()
lay:
	if e != api.OK {
		return nil, api.Fault{Err: e, At: at}
	}
	t.At = at
	all = append(all, t)
	goto between
end:
	return append(all, api.Token{Kind: api.TEnd, At: at}), api.Fault{}
}

// take goes on while is holds, and tells what it went over.
func (s *scanner) take(is func(rune) bool) string {
	rest := s.source[s.at:]
	for i, r := range rest {
		if !is(r) {
			s.at += i
			return rest[:i]
		}
	}
	s.at = len(s.source)
	return rest
}

// next goes on by one rune, and tells it.
func (s *scanner) next() rune {
	r, size := utf8.DecodeRuneInString(s.source[s.at:])
	if size == 0 {
		return none
	}
	s.at += size
	return r
}

// peek tells the rune that next would.
func (s *scanner) peek() rune {
	ahead := *s
	return ahead.next()
}

func isBlank(r rune) bool { return r == '\t' || r == '\n' || r == '\r' || r == ' ' }

func isInLine(r rune) bool { return r != '\n' }

func isSmall(r rune) bool { return r >= 'a' && r <= 'z' }

func isCapital(r rune) bool { return r >= 'A' && r <= 'Z' }

func isDigit(r rune) bool { return r >= '0' && r <= '9' }

// isInName tells what may stand behind the first letter of a word or a variable.
func isInName(r rune) bool {
	return isSmall(r) || isCapital(r) || isDigit(r) || r == '_' || r == '@'
}
