package world

import (
	"strconv"

	"exitwave/api"
)

// What a number of a script is at most, and how many digits that has.
const (
	maxNumber = 999999999
	maxDigits = 9
)

// numbers are a step's A, B and N; places say which of them are meant.
type (
	numbers [3]int
	places  [3]bool
)

// saying is how steps of a kind are said: a word, and behind it the numbers that the kind has.
type saying struct {
	word string
	kind int
	has  places
}

var sayings = [...]saying{
	{"r", api.XRun, places{true, false, true}},
	{"d", api.XDeliver, places{true, true, false}},
	{"k", api.XKill, places{true, false, false}},
	{"c", api.XCollect, places{true, false, false}},
}

func numbersOf(x api.Step) numbers { return numbers{x.A, x.B, x.N} }

// says tells whether a step can be said so.
func (s saying) says(x api.Step) bool {
	for i, n := range numbersOf(x) {
		if !s.has[i] && n != 0 || !within(n, 0, maxNumber) {
			return false
		}
	}
	return x.Kind == s.kind
}

// write writes a step behind what is written.
func (s saying) write(b []byte, x api.Step) []byte {
	if len(b) > 0 {
		b = append(b, ' ')
	}
	b = append(b, s.word...)
	for i, n := range numbersOf(x) {
		if s.has[i] {
			b = strconv.AppendInt(append(b, ' '), int64(n), 10)
		}
	}
	return b
}
