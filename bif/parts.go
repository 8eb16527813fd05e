package bif

import (
	"slices"

	"exitwave/api"
	"exitwave/term"
)

// Builtins of lists, tuples and their elements, and of terms of any kind.

// filled tells the elements of a list that has some.
func (c call) filled() []api.Term {
	l := c.elements(0, api.KList)
	must(len(l) > 0, api.ErrBad)
	return l
}

func (c call) head() api.Term { return c.filled()[0] }

func (c call) rest() api.Term { return list(c.filled()[1:]) }

func (c call) length() api.Term { return number(len(c.elements(0, api.KList))) }

func (c call) tupleSize() api.Term { return number(len(c.elements(0, api.KTuple))) }

func (c call) element() api.Term {
	l := c.elements(1, api.KTuple)
	return l[c.place(l)]
}

func (c call) nth() api.Term {
	l := c.elements(1, api.KList)
	return l[c.place(l)]
}

func (c call) setElement() api.Term {
	l := slices.Clone(c.elements(1, api.KTuple))
	l[c.place(l)] = c.l[2]
	return tuple(l)
}

func (c call) tupleToList() api.Term { return list(c.elements(0, api.KTuple)) }

func (c call) listToTuple() api.Term { return tuple(c.elements(0, api.KList)) }

func (c call) reverse() api.Term {
	l := slices.Clone(c.elements(0, api.KList))
	slices.Reverse(l)
	return list(l)
}

func (c call) sort() api.Term {
	l, e := term.Sort(c.elements(0, api.KList))
	mustBe(e)
	return list(l)
}

// member holds X only against elements that have as many words as it: others are not identical to it, and a great X would be gone through once for each of many small ones.
func (c call) member() api.Term {
	l := c.elements(1, api.KList)
	n := words(c.l[0])
	for _, x := range l {
		if words(x) == n && same(x, c.l[0]) {
			return boolean(true)
		}
	}
	return boolean(false)
}

func (c call) size() api.Term { return number(words(c.l[0])) }

func (c call) least() api.Term {
	if c.compare() <= 0 {
		return c.l[0]
	}
	return c.l[1]
}

func (c call) greatest() api.Term {
	if c.compare() >= 0 {
		return c.l[0]
	}
	return c.l[1]
}
