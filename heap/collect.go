package heap

import (
	"exitwave/api"
	"exitwave/word"
)

// moving lays words anew by Cheney's way. Where a block was laid is kept apart from the words that there were: blocks may overlap, so that none of their words can be given up for it.
type moving struct {
	from *Heap
	laid []word.Word
	now  []word.Word // by places that were: what points to the block now, 0 if it was not laid yet
}

// move leaves the heap as it is; it tells the words laid anew, and the roots' words then.
func (h *Heap) move(roots []word.Word) (laid, told []word.Word, e api.Errno) {
	if !h.holdsAll(roots) {
		return nil, nil, api.ErrTerm
	}
	m := moving{from: h, now: make([]word.Word, len(h.words))}
	told = make([]word.Word, len(roots))
	for i, w := range roots {
		told[i] = m.meet(w)
	}
	m.scan()
	return m.laid, told, api.OK
}

func (h *Heap) holdsAll(roots []word.Word) bool {
	g := gauge{heap: h, seen: make([]known, len(h.words))}
	for _, w := range roots {
		if !g.holds(w) {
			return false
		}
	}
	return true
}

// meet needs no tag beside the place in now: of right words only a Box, or only a Cons, points there.
func (m *moving) meet(w word.Word) word.Word {
	if !points(w) {
		return w
	}
	at := w.Body()
	if m.now[at] == 0 {
		b, _ := m.from.block(w)
		m.now[at] = of(w.Tag(), int64(len(m.laid)))
		m.laid = append(m.laid, b.own...)
	}
	return m.now[at]
}

// scan goes over words that are laid as it goes. A header is always the first word of a block, since none stands among the words of right terms.
func (m *moving) scan() {
	for n := 0; n < len(m.laid); {
		if kind, _, is := m.laid[n].Header(); is {
			n += frontOf(kind)
			continue
		}
		w := m.meet(m.laid[n]) // may put laid elsewhere
		m.laid[n] = w
		n++
	}
}
