package heap_test

import (
	"math"

	"exitwave/api"
	"exitwave/word"
)

// layOut says how terms lie once more: the word of t, and its words, if they are laid from a place on.
func layOut(t api.Term, place int, number func(string) int) (word.Word, []word.Word) {
	var front []word.Word
	per, w := 1, wBox(place)
	switch t.Kind {
	case api.KInt:
		return wInt(t.N), nil
	case api.KPid:
		return wPid(t.N), nil
	case api.KAtom:
		return wAtom(int64(number(t.S))), nil
	case api.KFloat:
		return w, []word.Word{head(api.KFloat, 1), word.Word(math.Float64bits(t.F))}
	case api.KRef:
		return w, []word.Word{head(api.KRef, 1), word.Word(t.N)}
	case api.KFun:
		front = []word.Word{head(api.KFun, len(t.L)), word.Word(t.N)}
	case api.KTuple:
		front = []word.Word{head(api.KTuple, len(t.L))}
	case api.KList:
		if len(t.L) == 0 {
			return wNil, nil
		}
		per, w = 2, wCons(place)
	}
	own, inner := front, []word.Word{}
	behind := place + len(front) + per*len(t.L)
	for i, x := range t.L {
		element, all := layOut(x, behind+len(inner), number)
		own, inner = append(own, element), append(inner, all...)
		if per == 2 && i < len(t.L)-1 {
			own = append(own, wCons(place+2*(i+1)))
		} else if per == 2 {
			own = append(own, wNil)
		}
	}
	return w, append(own, inner...)
}

// wordsOf, depthOf say W3 and W2.
func wordsOf(x api.Term) int {
	a := 0
	for _, y := range x.L {
		a += wordsOf(y)
	}
	per := []int{0, 0, 0, 0, 0, 1, 0, 1, 2}[x.Kind]
	own := []int{0, 0, 2, 0, 2, 2, 0, 1, 0}[x.Kind]
	return own + per*len(x.L) + a
}

func depthOf(x api.Term) int {
	deepest := 0
	for _, y := range x.L {
		deepest = max(deepest, depthOf(y))
	}
	return deepest + 1
}

// row is words and texts of atoms, read by an oracle that unfolds whatever it meets until its fuel is spent: a right term has not so many parts.
type row struct {
	words []word.Word
	texts []string
	fuel  int
}

// read tells what Load must tell.
func (r row) read(w word.Word) (api.Term, bool) {
	r.fuel = 1 << 17
	t, is := r.unfold(w, 1)
	if !is || wordsOf(t) > 65536 || depthOf(t) > 200 {
		return api.Term{}, false
	}
	return t, true
}

func (r *row) unfold(w word.Word, depth int) (api.Term, bool) {
	r.fuel--
	body := uint64(w) / 16
	if r.fuel < 0 || depth > 200 || body > 1<<40 && w%16 != 1 {
		return api.Term{}, false
	}
	switch w % 16 {
	case 1:
		return whole(int64(w) >> 4), true
	case 2:
		if body >= uint64(len(r.texts)) {
			return api.Term{}, false
		}
		return atom(r.texts[body]), true
	case 3:
		return pid(int64(body)), true
	case 4:
		return list(), body == 0
	}
	kind, front, elements, is := r.parts(w)
	if !is {
		return api.Term{}, false
	}
	t := api.Term{Kind: kind}
	switch kind {
	case api.KFloat:
		t.F = math.Float64frombits(uint64(front[1]))
		is = !math.IsNaN(t.F) && !math.IsInf(t.F, 0)
	case api.KRef:
		t.N = int64(front[1])
		is = front[1] <= 1099511627776
	case api.KFun:
		t.N = int64(front[1])
		is = front[1] <= 16384
	}
	for _, x := range elements {
		y, right := r.unfold(x, depth+1)
		if !right {
			return api.Term{}, false
		}
		t.L = append(t.L, y)
	}
	return t, is
}

// parts are the words that a Box or a Cons stands for, a list's all at once: those that are no elements, and the elements'.
func (r *row) parts(w word.Word) (kind int, front, elements []word.Word, is bool) {
	at := int(w / 16)
	if w%16 == 6 {
		for w%16 == 6 {
			at = int(w / 16)
			if at+1 >= len(r.words) || len(elements) > 1<<16 {
				return 0, nil, nil, false
			}
			elements, w = append(elements, r.words[at]), r.words[at+1]
		}
		return api.KList, nil, elements, w == wNil
	}
	if w%16 != 5 || at >= len(r.words) || r.words[at]%16 != 7 {
		return 0, nil, nil, false
	}
	kind, size := int(r.words[at]/16%16), int(r.words[at]/256)
	fronts, sizes := 0, size
	switch kind {
	case api.KFloat, api.KRef:
		fronts, sizes, is = 2, 0, size == 1
	case api.KFun:
		fronts, is = 2, true
	case api.KTuple:
		fronts, is = 1, true
	}
	if !is || size > 65536 || at+fronts+sizes > len(r.words) {
		return 0, nil, nil, false
	}
	return kind, r.words[at : at+fronts], r.words[at+fronts : at+fronts+sizes], true
}

// collect lays blocks by a queue of them, where the program goes over words.
func (r row) collect(roots []word.Word) (laid, told []word.Word) {
	places := map[word.Word]int{}
	var queue []word.Word
	used := 0
	meet := func(w word.Word) word.Word {
		if w%16 != 5 && w%16 != 6 {
			return w
		}
		if _, is := places[w]; !is {
			places[w] = used
			queue = append(queue, w)
			front, rest := r.block(w)
			used += len(front) + len(rest)
		}
		return tagged(w%16, int64(places[w]))
	}
	for _, w := range roots {
		told = append(told, meet(w))
	}
	for len(queue) > 0 {
		front, rest := r.block(queue[0])
		queue = queue[1:]
		laid = append(laid, front...)
		for _, w := range rest {
			laid = append(laid, meet(w))
		}
	}
	return laid, told
}

// block is what is laid at once: words that are not met, and such as are.
func (r row) block(w word.Word) (front, met []word.Word) {
	if w%16 == 6 {
		return nil, r.words[w/16 : w/16+2]
	}
	_, front, met, _ = r.parts(w)
	return front, met
}
