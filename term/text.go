package term

import (
	"strconv"
	"strings"

	"exitwave/api"
)

const digits = "0123456789abcdef"

func write(to *strings.Builder, t api.Term) { kindOf(t).write(to, t) }

func writeAll(to *strings.Builder, open byte, l []api.Term, end byte) {
	to.WriteByte(open)
	for i, t := range l {
		if i > 0 {
			to.WriteByte(',')
		}
		write(to, t)
	}
	to.WriteByte(end)
}

func writeSerial(to *strings.Builder, front string, n int64) {
	to.WriteString(front)
	to.WriteString(strconv.FormatInt(n, 10))
}

func writeAtom(to *strings.Builder, s string) {
	if isPlain(s) && !isKept(s) {
		to.WriteString(s)
		return
	}
	to.WriteByte('\'')
	for i := range len(s) {
		writeQuoted(to, s[i])
	}
	to.WriteByte('\'')
}

func writeQuoted(to *strings.Builder, c byte) {
	switch {
	case c == '\\' || c == '\'':
		to.WriteByte('\\')
		to.WriteByte(c)
	case c < 32 || c > 126:
		to.WriteString(`\x`)
		to.WriteByte(digits[c>>4])
		to.WriteByte(digits[c&15])
	default:
		to.WriteByte(c)
	}
}

// isPlain tells whether a source could have s as an atom without quotes, if it is no kept word.
func isPlain(s string) bool {
	if s == "" || !isSmall(s[0]) {
		return false
	}
	for i := range len(s) {
		if !isBehind(s[i]) {
			return false
		}
	}
	return true
}

func isSmall(c byte) bool { return c >= 'a' && c <= 'z' }

func isBehind(c byte) bool {
	return isSmall(c) || c >= 'A' && c <= 'Z' || c >= '0' && c <= '9' || c == '_' || c == '@'
}

// isKept has the kept words of doc/05-lex.md: package lex stands above this one, so it cannot be asked.
func isKept(s string) bool {
	switch s {
	case "after", "andalso", "begin", "case", "catch", "div", "end", "fun", "not", "of", "orelse", "receive", "rem", "try", "when":
		return true
	}
	return false
}
