package inbox_test

import (
	"testing"

	"exitwave/api"
)

func TestExample1(t *testing.T) {
	b := made(t, 100)
	put(t, b, atoms("abc")...)
	expectNext(t, b, atoms("ab")...)
	expectTake(t, b, atom("b"))
	expectNext(t, b, atoms("ac")...)
	expectNoNext(t, b)
	put(t, b, atom("d"))
	expectNext(t, b, atom("d"))
}

func TestExample2(t *testing.T) {
	b := made(t, 4)
	expectPut(t, b, whole(1), api.OK)
	if b.Words() != 2 {
		t.Errorf("example 2: %d words; want 2", b.Words())
	}
	expectPut(t, b, whole(1), api.OK)
	expectPut(t, b, whole(1), api.ErrLimit)
}
