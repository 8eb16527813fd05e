package word_test

import (
	"math"
	"testing"

	"exitwave/api"
	"exitwave/word"
)

var headed = []int{api.KFloat, api.KRef, api.KFun, api.KTuple}

// bare are kinds that have no header: those of the other terms, none, and such as have one that has in their lowest four bits alone.
var bare = []int{api.KInt, api.KAtom, api.KPid, api.KList, 0, -1, -9, 9, 15, 16, 18, 20, 21, 23, 0x37, 1<<32 | 7, math.MinInt, math.MinInt + 7, math.MaxInt}

var sizes = []int{0, 1, 2, 3, 15, 16, 17, 4095, 4096, 65535, 65536}

var noSizes = []int{-1, -2, -65536, 65537, 65552, 1 << 20, 1 << 36, 1<<36 + 1, 1 << 56, 1 << 60, math.MinInt, math.MaxInt}

func TestP302Header(t *testing.T) {
	for _, k := range headed {
		for _, n := range sizes {
			want := word.Word((16*n+k)*16 + 7)
			if w, e := word.Header(k, n); w != want || e != api.OK {
				t.Errorf("P302 Header(%d, %d): %#x, %v; want %#x", k, n, w, e, want)
			}
			if w := want; w.Tag() != word.Head || w.Body() != int64(16*n+k) || !w.Right() {
				t.Errorf("P302 %#x: tag %d, body %d", w, w.Tag(), w.Body())
			}
		}
		for _, n := range noSizes {
			if w, e := word.Header(k, n); w != 0 || e != api.ErrLimit {
				t.Errorf("P302 Header(%d, %d): %#x, %v; want 0, system_limit", k, n, w, e)
			}
		}
	}
}

// A kind that has none is told ahead of a size that may not be.
func TestP302NoHeader(t *testing.T) {
	for _, k := range bare {
		for _, n := range append(noSizes, sizes...) {
			if w, e := word.Header(k, n); w != 0 || e != api.ErrArg {
				t.Errorf("P302, P6 Header(%d, %d): %#x, %v; want 0, arg", k, n, w, e)
			}
		}
	}
}

func expectPieces(t *testing.T, w word.Word, kind, size int, is bool) {
	t.Helper()
	if k, n, i := w.Header(); k != kind || n != size || i != is {
		t.Errorf("P302 %#x.Header(): %d, %d, %v; want %d, %d, %v", w, k, n, i, kind, size, is)
	}
}

func TestP302Pieces(t *testing.T) {
	for _, n := range sizes {
		for kind := range 16 {
			w := word.Word((16*n+kind)*16 + 7)
			if kind == 2 || kind == 4 || kind == 5 || kind == 7 {
				expectPieces(t, w, kind, n, true)
			} else {
				expectPieces(t, w, 0, 0, false)
			}
			for tag := range word.Word(16) {
				if tag != 7 {
					expectPieces(t, w-7+tag, 0, 0, false)
				}
			}
		}
	}
}

// Sizes beyond MaxWords, up to all that the bits above the kind can say.
func TestP302BeyondPieces(t *testing.T) {
	for _, kind := range headed {
		for _, n := range []uint64{65537, 1 << 17, 1 << 36, 1 << 55, 1 << 32, 1<<32 + 3, 1<<48 + 3, 1<<55 + 3, 1<<56 - 1} {
			expectPieces(t, word.Word((16*n+uint64(kind))*16+7), 0, 0, false)
		}
	}
}

func TestP302AnyWord(t *testing.T) {
	for _, w := range words() {
		tag, body := pieces(w)
		kind, size := body%16, body/16
		if tag == 7 && size <= 65536 && (kind == 2 || kind == 4 || kind == 5 || kind == 7) {
			expectPieces(t, w, int(kind), int(size), true)
		} else {
			expectPieces(t, w, 0, 0, false)
		}
	}
}
