package word_test

import (
	"testing"

	"exitwave/api"
	"exitwave/word"
)

func TestExample1(t *testing.T) {
	for _, c := range []struct {
		tag  word.Word
		body int64
		want word.Word
		e    api.Errno
	}{
		{word.Int, -1, 0xfffffffffffffff1, api.OK},
		{word.Nil, 0, 4, api.OK},
		{word.Nil, 1, 0, api.ErrLimit},
		{9, 0, 0, api.ErrArg},
		{word.Int, 1 << 59, 0, api.ErrLimit},
		{word.Int, -1 << 59, 0x8000000000000001, api.OK},
	} {
		if w, e := word.Of(c.tag, c.body); w != c.want || e != c.e {
			t.Errorf("example 1: Of(%d, %d): %#x, %v; want %#x, %v", c.tag, c.body, w, e, c.want, c.e)
		}
	}
	if b := word.Word(0xfffffffffffffff1).Body(); b != -1 {
		t.Errorf("example 1: Body: %d; want -1", b)
	}
}

func TestExample2(t *testing.T) {
	w, e := word.Header(api.KTuple, 3)
	if w != 0x377 || w.Body() != 55 || e != api.OK {
		t.Errorf("example 2: Header(KTuple, 3): %#x, body %d, %v", w, w.Body(), e)
	}
	expectPieces(t, 0x377, 7, 3, true)
	expectPieces(t, 0x371, 0, 0, false)
}

func TestExample3(t *testing.T) {
	a := word.NewAtoms()
	expectNumber(t, a, "a", 0, api.OK)
	expectNumber(t, a, "b", 1, api.OK)
	expectNumber(t, a, "a", 0, api.OK)
}
