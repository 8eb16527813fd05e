package bif_test

import (
	"testing"

	"exitwave/api"
)

func TestExample1(t *testing.T) {
	expectOp(t, atom("true"), "==", whole(1), float(1))
	expectOp(t, atom("false"), "=:=", whole(1), float(1))
	expectOp(t, atom("false"), "=:=", float(0), float(minus))
	refusesOp(t, api.ErrBad, "++", list(whole(1)), whole(2))
}

func TestExample2(t *testing.T) {
	expectCall(t, atom("a"), "element", whole(1), tuple(atom("a")))
	refusesCall(t, api.ErrBad, "element", whole(0), tuple(atom("a")))
	expectCall(t, whole(1), "max", whole(1), float(1))
	refusesCall(t, api.ErrArith, "bits", text("7ff0000000000000"))
	expectCall(t, whole(-7), "list_to_integer", text("-007"))
}
