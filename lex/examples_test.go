package lex_test

import (
	"testing"

	"exitwave/api"
)

// The chapter's examples, by their numbers.

func TestExample1(t *testing.T) {
	expect(t, "f(X)->X+1.5.%e",
		atom(0, "f"), sign(1, "("), variable(2, "X"), sign(3, ")"), sign(4, "->"), variable(6, "X"), sign(7, "+"), float(8, 1.5), sign(11, "."))
}

func TestExample2(t *testing.T) {
	expect(t, "1.", whole(0, 1), sign(1, "."))
	expectFault(t, "01", api.ErrNumber, 0)
	expectFault(t, "1.2345678901234567", api.ErrNumber, 0)
	expectFault(t, "#7ff0000000000000", api.ErrNumber, 0)
	expect(t, "#8000000000000000", float(0, minus))
}

func TestExample3(t *testing.T) {
	expect(t, `'a\x41\''`, atom(0, "aA'"))
	expectFault(t, "'a", api.ErrQuote, 0)
	expectFault(t, "^", api.ErrChar, 0)
	expect(t, "=:==", sign(0, "=:="), sign(3, "="))
}

func TestExample4(t *testing.T) {
	expect(t, "576460752303423487", whole(0, api.MaxInt))
	expectFault(t, "576460752303423488", api.ErrNumber, 0)
}
