package gram_test

import (
	"testing"

	"exitwave/api"
)

// The chapter's examples, by their numbers.

func TestExample1(t *testing.T) {
	expectNodes(t, "-module(m). f(X) when X > 0 -> X - 1.",
		"Var:X@14", "Var:X@22", "Int@26", "Op:>[1 2]@22", "Guard[3]@22", "Var:X@31", "Int#1@35", "Op:-[5 6]@31", "Body[7]@31",
		"Clause:f#1[0 4 8]@12", "Clauses[9]@12", "Func:f#1[10]@12", "Module:m[11]@0")
}

func TestExample2(t *testing.T) {
	expectFault(t, "-module(m). f() -> 1 +.", api.ErrSyntax, 22)
	expectFault(t, "-modul(m).", api.ErrSyntax, 1)
	expectFault(t, "", api.ErrSyntax, 0)
}

func TestExample3(t *testing.T) {
	expectBody(t, "a - b - c", "Atom:a@0", "Atom:b@4", "Op:-[0 1]@0", "Atom:c@8", "Op:-[2 3]@0")
	expectBody(t, "(a - b) - c", "Atom:a@1", "Atom:b@5", "Op:-[0 1]@1", "Atom:c@10", "Op:-[2 3]@0")
	expectBody(t, "a ++ b ++ c", "Atom:a@0", "Atom:b@5", "Atom:c@10", "Op:++[1 2]@5", "Op:++[0 3]@0")
	expectBody(t, "a ++ (b ++ c)", "Atom:a@0", "Atom:b@6", "Atom:c@11", "Op:++[1 2]@6", "Op:++[0 3]@0")
	expectBody(t, "- not x", "Atom:x@6", "Op:not[0]@2", "Op:-[1]@0")
	expectBody(t, "f(1)(2)", "Int#1@2", "Call:f[0]@0", "Int#2@5", "Apply[1 2]@0")
}
