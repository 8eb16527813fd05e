package world

import (
	"strings"

	"exitwave/api"
)

// Script reads steps, Text writes them.
func Script(text string) ([]api.Step, api.Errno) {
	var told []api.Step
	many := 0
	r := reader{text}
	for word, there := r.word(); there; word, there = r.word() {
		x, is := r.step(word)
		if !is {
			return nil, api.ErrArg
		}
		// What is behind may still be wrong, and that comes first: it is read, but not kept.
		if many++; many <= api.MaxSteps {
			told = append(told, x)
		}
	}
	if many > api.MaxSteps {
		return nil, api.ErrMany
	}
	return told, api.OK
}

func Text(l []api.Step) string {
	var told []byte
	for _, x := range l {
		for _, s := range sayings {
			if s.says(x) {
				told = s.write(told, x)
			}
		}
	}
	return string(told)
}

// reader goes over a text word by word.
type reader struct {
	rest string
}

func (r *reader) word() (word string, there bool) {
	word, r.rest, _ = strings.Cut(strings.TrimLeft(r.rest, " "), " ")
	return word, word != ""
}

// step is the one that begins with a word.
func (r *reader) step(word string) (x api.Step, is bool) {
	for _, s := range sayings {
		if s.word == word {
			l, is := r.numbers(s.has)
			return api.Step{Kind: s.kind, A: l[0], B: l[1], N: l[2]}, is
		}
	}
	return api.Step{}, false
}

func (r *reader) numbers(has places) (l numbers, is bool) {
	for i := range l {
		if !has[i] {
			continue
		}
		word, _ := r.word()
		l[i], is = number(word)
		if !is {
			return numbers{}, false
		}
	}
	return l, true
}

func number(word string) (n int, is bool) {
	if !within(len(word), 1, maxDigits) || word[0] == '0' && len(word) > 1 {
		return 0, false
	}
	for i := range len(word) {
		if word[i] < '0' || word[i] > '9' {
			return 0, false
		}
		n = 10*n + int(word[i]-'0')
	}
	return n, true
}
