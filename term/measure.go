package term

import "exitwave/api"

// size is how many words a term has, and how deep it is nested.
type size struct{ words, depth int }

// walk counts what it has gone over.
type walk struct {
	size
	wrong bool
}

// measure answers no size beside an error.
func measure(t api.Term) (size, api.Errno) {
	var w walk
	switch {
	case !w.over(t, 1):
		return size{}, api.ErrLimit
	case w.wrong:
		return size{}, api.ErrTerm
	}
	return w.size, api.OK
}

// over goes on behind a term that is not right, since a limit is told ahead of that; it answers false as soon as one is passed, so that it ends on what is nested without an end.
func (w *walk) over(t api.Term, depth int) bool {
	k := kindOf(t)
	w.words += k.words(t)
	w.depth = max(w.depth, depth)
	if w.words > api.MaxWords || w.depth > api.MaxDepth {
		return false
	}
	w.wrong = w.wrong || !k.right(t)
	for _, element := range t.L {
		if !w.over(element, depth+1) {
			return false
		}
	}
	return true
}
