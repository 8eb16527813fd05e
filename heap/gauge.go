package heap

import (
	"exitwave/api"
	"exitwave/word"
)

// size is how many words a term has, shared ones as often as they stand in it, and how deep it is nested.
type size struct{ words, depth int32 }

// known is the size of what a word points to; the word is kept beside it, since a Box and a Cons may point to one place, where only one of them can be right.
type known struct {
	by word.Word
	size
}

// gauge tells whether words are those of terms, without making these. It ends on words that lie in a circle, since it counts as it goes in.
type gauge struct {
	heap  *Heap
	words int     // of the term, as far as it was gone over
	seen  []known // by places, where roots may share much; else nil
}

func (g *gauge) holds(w word.Word) bool {
	g.words = 0
	return g.over(w, 1) > 0
}

// over tells how deep that is nested which w says, and which stands so deep in the whole: 0, if it is no term, or if the whole is too great with it.
func (g *gauge) over(w word.Word, depth int) int {
	if depth > api.MaxDepth {
		return 0
	}
	if !points(w) {
		if _, is := g.heap.alone(w); !is {
			return 0
		}
		return 1
	}
	if at := w.Body(); at < int64(len(g.seen)) && g.seen[at].by == w {
		return g.again(g.seen[at].size, depth)
	}
	return g.into(w, depth)
}

func (g *gauge) again(s size, depth int) int {
	g.words += int(s.words)
	if g.words > api.MaxWords || depth+int(s.depth)-1 > api.MaxDepth {
		return 0
	}
	return int(s.depth)
}

func (g *gauge) into(w word.Word, depth int) int {
	b, is := g.heap.block(w)
	before := g.words
	g.words += len(b.own)
	if !is || g.words > api.MaxWords {
		return 0
	}
	deep := g.over(b.rest, depth)
	if deep == 0 {
		return 0
	}
	for _, element := range b.elements {
		inner := g.over(element, depth+1)
		if inner == 0 {
			return 0
		}
		deep = max(deep, inner+1)
	}
	if at := w.Body(); at < int64(len(g.seen)) {
		g.seen[at] = known{w, size{int32(g.words - before), int32(deep)}}
	}
	return deep
}
