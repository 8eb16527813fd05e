package heap

import (
	"math"
	"slices"

	"exitwave/api"
	"exitwave/term"
	"exitwave/word"
)

// block is what a Box or a Cons points to.
type block struct {
	own      []word.Word
	bare     api.Term    // what own says, without elements
	elements []word.Word // the words of these
	rest     word.Word   // of a pair the list behind its element, else Nil
}

// read is given a word that a gauge holds for one of a term.
func (h *Heap) read(w word.Word) api.Term {
	if !points(w) {
		t, _ := h.alone(w)
		return t
	}
	b, _ := h.block(w)
	t := b.bare
	for {
		t.L = slices.Grow(t.L, len(b.elements))
		for _, element := range b.elements {
			t.L = append(t.L, h.read(element))
		}
		if !points(b.rest) {
			return t
		}
		b, _ = h.block(b.rest)
	}
}

func points(w word.Word) bool { return w.Tag() == word.Box || w.Tag() == word.Cons }

// alone tells what a word says by itself, and whether it may say that.
func (h *Heap) alone(w word.Word) (api.Term, bool) {
	if !w.Right() {
		return api.Term{}, false
	}
	switch w.Tag() {
	case word.Int:
		return api.Term{Kind: api.KInt, N: w.Body()}, true
	case word.Pid:
		return api.Term{Kind: api.KPid, N: w.Body()}, true
	case word.Nil:
		return api.Term{Kind: api.KList}, true
	case word.Atom:
		s, is := h.table().Text(int(w.Body()))
		return api.Term{Kind: api.KAtom, S: s}, is
	}
	return api.Term{}, false
}

// block is given a Box or a Cons. It does not look at what the words of elements and of a rest say.
func (h *Heap) block(w word.Word) (block, bool) {
	if w.Tag() == word.Cons {
		return h.pair(w.Body())
	}
	return h.box(w.Body())
}

func (h *Heap) pair(at int64) (block, bool) {
	own, is := h.cut(at, 2)
	if !is || own[1].Tag() != word.Nil && own[1].Tag() != word.Cons {
		return block{}, false
	}
	return block{own: own, bare: api.Term{Kind: api.KList}, elements: own[:1], rest: own[1]}, true
}

func (h *Heap) box(at int64) (block, bool) {
	first, is := h.cut(at, 1)
	if !is {
		return block{}, false
	}
	kind, size, is := first[0].Header()
	n, may := lengthOf(kind, size)
	own, fits := h.cut(at, n)
	if !is || !may || !fits {
		return block{}, false
	}
	t := bare(kind, own)
	return block{own: own, bare: t, elements: own[frontOf(kind):], rest: of(word.Nil, 0)}, term.Check(t) == api.OK
}

// cut ends the capacity where the words end that are asked for, so that nothing is laid behind them by mistake.
func (h *Heap) cut(at int64, n int) ([]word.Word, bool) {
	if at > int64(len(h.words)-n) {
		return nil, false
	}
	from := int(at)
	return h.words[from : from+n : from+n], true
}

// frontOf is how many words of a block, from its header on, are none of terms.
func frontOf(kind int) int {
	if kind == api.KTuple {
		return 1
	}
	return 2
}

// lengthOf is how many words a block has, and whether its header may tell that size: those of floats and references count the word without a tag, and nothing else.
func lengthOf(kind, size int) (int, bool) {
	if kind == api.KTuple || kind == api.KFun {
		return frontOf(kind) + size, true
	}
	return frontOf(kind), size == 1
}

func bare(kind int, own []word.Word) api.Term {
	t := api.Term{Kind: kind}
	switch kind {
	case api.KFloat:
		t.F = math.Float64frombits(uint64(own[1]))
	case api.KRef, api.KFun:
		t.N = int64(own[1])
	}
	return t
}
