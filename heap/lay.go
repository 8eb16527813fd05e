package heap

import (
	"math"

	"exitwave/api"
	"exitwave/word"
)

// laying lays a right term's words in room that has just as many.
type laying struct {
	atoms *word.Atoms
	at    int         // the number of the first word of room
	room  []word.Word // what is left of it
	err   api.Errno   // the first one of an atom
}

// lay tells a term's word. Own words are cut out ahead of those of the elements, and filled as these are laid.
func (l *laying) lay(t api.Term) word.Word {
	switch t.Kind {
	case api.KInt:
		return of(word.Int, t.N)
	case api.KPid:
		return of(word.Pid, t.N)
	case api.KAtom:
		return l.atom(t.S)
	case api.KList:
		return l.list(t.L)
	case api.KFloat:
		return l.box(t, 1, word.Word(math.Float64bits(t.F)))
	case api.KRef:
		return l.box(t, 1, word.Word(t.N))
	case api.KFun:
		return l.box(t, len(t.L), word.Word(t.N))
	}
	return l.box(t, len(t.L))
}

// cut ends the capacity of what it cuts out where that ends, so that no word of one term can be laid into another.
func (l *laying) cut(n int) (at int, own []word.Word) {
	at, own = l.at, l.room[:n:n]
	l.at, l.room = l.at+n, l.room[n:]
	return at, own
}

func (l *laying) atom(s string) word.Word {
	n, e := l.atoms.Number(s)
	if l.err == api.OK {
		l.err = e
	}
	return of(word.Atom, int64(n))
}

// box is given the size that its header tells, and the words that have no tag.
func (l *laying) box(t api.Term, size int, untagged ...word.Word) word.Word {
	front := 1 + len(untagged)
	at, own := l.cut(front + len(t.L))
	own[0], _ = word.Header(t.Kind, size)
	copy(own[1:], untagged)
	for i, element := range t.L {
		own[front+i] = l.lay(element)
	}
	return of(word.Box, int64(at))
}

func (l *laying) list(elements []api.Term) word.Word {
	if len(elements) == 0 {
		return of(word.Nil, 0)
	}
	at, own := l.cut(2 * len(elements))
	for i, element := range elements {
		own[2*i] = l.lay(element)
		own[2*i+1] = of(word.Cons, int64(at+2*i+2))
	}
	own[len(own)-1] = of(word.Nil, 0)
	return of(word.Cons, int64(at))
}
