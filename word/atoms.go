package word

import (
	"strings"

	"exitwave/api"
)

// Atoms numbers texts. Its zero value is a table without atoms, too.
type Atoms struct {
	numbers map[string]int
	texts   []string // by their numbers
}

func NewAtoms() *Atoms { return &Atoms{} }

func (a *Atoms) Number(s string) (int, api.Errno) {
	if len(s) > api.MaxAtom {
		return 0, api.ErrLong
	}
	if n, is := a.numbers[s]; is {
		return n, api.OK
	}
	return a.add(s), api.OK
}

func (a *Atoms) Text(n int) (string, bool) {
	if n < 0 || n >= len(a.texts) {
		return "", false
	}
	return a.texts[n], true
}

func (a *Atoms) Len() int { return len(a.texts) }

// add keeps a copy, since the text handed in may be a small piece of a great one.
func (a *Atoms) add(s string) int {
	if a.numbers == nil {
		a.numbers = make(map[string]int)
	}
	s = strings.Clone(s)
	n := len(a.texts)
	a.numbers[s] = n
	a.texts = append(a.texts, s)
	return n
}
