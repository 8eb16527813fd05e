package lex

import (
	"strings"

	"exitwave/api"
)

// signs stand so that a longer one is found ahead of those that it begins with.
var signs = [...]string{
	"=:=", "=/=", "->", "==", "/=", "=<", ">=", "++",
	"(", ")", "{", "}", "[", "]", ",", ";", ".", "|", "=", "<", ">", "+", "-", "*", "/", "!", ":",
}

func (s *scanner) word() (api.Token, api.Errno) {
	name := s.name()
	if Kept(name) {
		return api.Token{Kind: api.TWord, S: name}, api.OK
	}
	return atom(name)
}

func (s *scanner) variable() (api.Token, api.Errno) {
	return api.Token{Kind: api.TVar, S: s.name()}, api.OK
}

// name is apart from the source, which is not kept (P2).
func (s *scanner) name() string { return strings.Clone(s.take(isInName)) }

func atom(text string) (api.Token, api.Errno) {
	if len(text) > api.MaxAtom {
		return api.Token{}, api.ErrQuote
	}
	return api.Token{Kind: api.TAtom, S: text}, api.OK
}

func (s *scanner) sign() (api.Token, api.Errno) {
	for _, sign := range signs {
		if strings.HasPrefix(s.source[s.at:], sign) {
			s.at += len(sign)
			return api.Token{Kind: api.TSign, S: sign}, api.OK
		}
	}
	return api.Token{}, api.ErrChar
}

func (s *scanner) quotation() (api.Token, api.Errno) {
	mark := s.next()
	text, right := s.quoted(mark)
	switch {
	case !right:
		return api.Token{}, api.ErrQuote
	case mark == '\'':
		return atom(text)
	}
	return api.Token{Kind: api.TString, S: text}, api.OK
}

// quoted reads up to the mark; false, if there is none, or an escape is none.
func (s *scanner) quoted(mark rune) (string, bool) {
	var text strings.Builder
	var c byte
	var right bool

plain:
	text.WriteString(s.take(func(r rune) bool { return r != mark && r != '\\' }))
	switch s.next() {
	case mark:
		return text.String(), true
	case '\\':
		goto escape
	}
	return "", false

escape:
	c, right = s.escaped()
	if !right {
		return "", false
	}
	text.WriteByte(c)
	goto plain
}

// escaped reads what stands behind a backslash, and tells the byte that it stands for.
func (s *scanner) escaped() (byte, bool) {
	switch r := s.next(); r {
	case '\\', '\'', '"':
		return byte(r), true
	case 'n':
		return '\n', true
	case 't':
		return '\t', true
	case 'x':
		u, right := s.hex(2)
		return byte(u), right
	}
	return 0, false
}
