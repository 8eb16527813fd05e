package word_test

import (
	"testing"

	"exitwave/api"
	"exitwave/word"
)

func TestP301Tags(t *testing.T) {
	for _, g := range tags {
		if uint64(g.tag) != g.number {
			t.Errorf("P301 %s: %d; want %d", g.name, g.tag, g.number)
		}
	}
}

func TestP301Of(t *testing.T) {
	for _, g := range tags {
		for _, b := range bodies() {
			want, wantE := word.Word(0), api.ErrLimit
			if mayHave(g.number, b) {
				want, wantE = bits(g.number, b), api.OK
			}
			if w, e := word.Of(g.tag, b); w != want || e != wantE {
				t.Errorf("P301 Of(%s, %d): %#x, %v; want %#x, %v", g.name, b, w, e, want, wantE)
			}
		}
	}
}

func TestP301Edges(t *testing.T) {
	for _, c := range []struct {
		tag  word.Word
		body int64
		want word.Word
		e    api.Errno
	}{
		{word.Int, -576460752303423488, 0x8000000000000001, api.OK},
		{word.Int, -576460752303423489, 0, api.ErrLimit},
		{word.Int, 576460752303423487, 0x7ffffffffffffff1, api.OK},
		{word.Int, 576460752303423488, 0, api.ErrLimit},
		{word.Int, 0, 0x1, api.OK},
		{word.Nil, 0, 0x4, api.OK},
		{word.Nil, 1, 0, api.ErrLimit},
		{word.Nil, -1, 0, api.ErrLimit},
	} {
		if w, e := word.Of(c.tag, c.body); w != c.want || e != c.e {
			t.Errorf("P301 Of(%d, %d): %#x, %v; want %#x, %v", c.tag, c.body, w, e, c.want, c.e)
		}
	}
	for _, tag := range []word.Word{word.Atom, word.Pid, word.Box, word.Cons, word.Head, word.Moved} {
		for _, c := range []struct {
			body int64
			want word.Word
			e    api.Errno
		}{{-1, 0, api.ErrLimit}, {0, tag, api.OK}, {1 << 40, 0x100000000000 + tag, api.OK}, {1<<40 + 1, 0, api.ErrLimit}} {
			if w, e := word.Of(tag, c.body); w != c.want || e != c.e {
				t.Errorf("P301 Of(%d, %d): %#x, %v; want %#x, %v", tag, c.body, w, e, c.want, c.e)
			}
		}
	}
}

// A tag that is none is told ahead of a body that may not be.
func TestP301NoTag(t *testing.T) {
	for _, tag := range noTags {
		for _, b := range bodies() {
			if w, e := word.Of(tag, b); w != 0 || e != api.ErrArg {
				t.Errorf("P301, P6 Of(%#x, %d): %#x, %v; want 0, arg", tag, b, w, e)
			}
		}
	}
}

func TestP301Pieces(t *testing.T) {
	for _, w := range words() {
		tag, body := pieces(w)
		if uint64(w.Tag()) != tag || w.Body() != body {
			t.Errorf("P301 %#x: tag %d, body %d; want %d, %d", w, w.Tag(), w.Body(), tag, body)
		}
	}
}

func TestP301Right(t *testing.T) {
	right := 0
	for _, w := range words() {
		tag, body := pieces(w)
		want := tag >= 1 && tag <= 8 && mayHave(tag, body)
		if w.Right() != want {
			t.Errorf("P301 %#x.Right(): %v; want %v", w, w.Right(), want)
		}
		if want {
			right++
		}
	}
	if right < 100 {
		t.Errorf("only %d of the words tried are right", right)
	}
}

// Words whose bits above the tag no body has: of whole numbers there are none.
func TestP301RightEdges(t *testing.T) {
	for _, w := range []word.Word{0x1, 0x8000000000000001, 0x7ffffffffffffff1, 0xfffffffffffffff1, 0x2, 0x4, 0x100000000003, 0x100000000008} {
		if !w.Right() {
			t.Errorf("P301 %#x is right", w)
		}
	}
	for _, w := range []word.Word{0x0, 0x9, 0xf, 0x10, 0x14, 0x8000000000000004, 0x100000000012, 0x100000000013, 0x100000000015, 0x100000000016, 0x100000000017, 0x100000000018, 0x8000000000000002, 0xfffffffffffffff3, 0xffffffffffffffff} {
		if w.Right() {
			t.Errorf("P301 %#x is not right", w)
		}
	}
}

func TestP304Words(t *testing.T) {
	type parts struct {
		tag  word.Word
		body int64
	}
	by := map[parts]word.Word{}
	for _, w := range words() {
		if !w.Right() {
			continue
		}
		p := parts{w.Tag(), w.Body()}
		if other, is := by[p]; is && other != w {
			t.Errorf("P304 %#x and %#x have one tag and one body: %v", w, other, p)
		}
		by[p] = w
		if made, e := word.Of(p.tag, p.body); made != w || e != api.OK {
			t.Errorf("P304 Of(%d, %d): %#x, %v; want %#x", p.tag, p.body, made, e, w)
		}
	}
	for _, w := range rightWords() {
		if !w.Right() {
			t.Errorf("P304 %#x, made by Of, is right", w)
		}
	}
}

func TestP304Order(t *testing.T) {
	for _, a := range bodies() {
		for _, b := range bodies() {
			if !mayHave(1, a) || !mayHave(1, b) {
				continue
			}
			x, _ := word.Of(word.Int, a)
			y, _ := word.Of(word.Int, b)
			if (a < b) != (int64(x)>>4 < int64(y)>>4) || (a == b) != (x == y) {
				t.Errorf("P304 %d, %d: %#x, %#x", a, b, x, y)
			}
		}
	}
}
