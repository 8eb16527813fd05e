package word_test

import (
	"math"
	"math/big"
	"math/rand"

	"exitwave/api"
	"exitwave/word"
)

// tags are the eight, as the chapter numbers them.
var tags = []struct {
	name   string
	tag    word.Word
	number uint64
}{
	{"Int", word.Int, 1}, {"Atom", word.Atom, 2}, {"Pid", word.Pid, 3}, {"Nil", word.Nil, 4},
	{"Box", word.Box, 5}, {"Cons", word.Cons, 6}, {"Head", word.Head, 7}, {"Moved", word.Moved, 8},
}

// noTags are none of the eight: the rest of the four bits, and such as have one of the eight in their lowest four bits alone.
var noTags = []word.Word{0, 9, 10, 11, 12, 13, 14, 15, 16, 17, 18, 20, 23, 24, 33, 0x377, 1<<32 | 1, 1<<60 | 1, 1<<63 | 1, 1<<63 | 4, 0xfffffffffffffff1, math.MaxUint64}

// bodies are the edges of whole numbers, of what other words may have, of sixty and of sixty-four bits, and some between.
func bodies() []int64 {
	l := []int64{math.MinInt64, math.MaxInt64}
	for _, b := range []int64{0, 16, 1 << 20, 1 << 36, 1 << 40, 1 << 44, 1 << 59, 1 << 60, -1 << 40, -1 << 59, -1 << 60} {
		l = append(l, b-1, b, b+1)
	}
	r := rand.New(rand.NewSource(301))
	for range 200 {
		l = append(l, int64(r.Uint64())>>r.Intn(64))
	}
	return l
}

// mayHave is the chapter's rule for bodies, written apart.
func mayHave(number uint64, body int64) bool {
	least, most := int64(0), int64(1099511627776)
	switch number {
	case 1:
		least, most = -576460752303423488, 576460752303423487
	case 4:
		most = 0
	}
	return least <= body && body <= most
}

// bits are the lowest sixty bits of a body above the tag, reckoned without shifts.
func bits(number uint64, body int64) word.Word {
	n := new(big.Int).Mod(big.NewInt(body), new(big.Int).Exp(big.NewInt(2), big.NewInt(60), nil))
	n.Add(n.Mul(n, big.NewInt(16)), new(big.Int).SetUint64(number))
	return word.Word(n.Uint64())
}

// pieces are a word's tag and body, reckoned without shifts.
func pieces(w word.Word) (uint64, int64) {
	tag, body := uint64(w)%16, int64(uint64(w)/16)
	if tag == 1 && body >= 576460752303423488 {
		body -= 1152921504606846976
	}
	return tag, body
}

// words are such as may be and such as may not, of all tags.
func words() []word.Word {
	l := []word.Word{0, 4, 0x14, math.MaxUint64, 1 << 63}
	for tag := range uint64(16) {
		for _, b := range bodies() {
			l = append(l, bits(tag, b))
		}
	}
	r := rand.New(rand.NewSource(302))
	for range 2000 {
		l = append(l, word.Word(r.Uint64()>>r.Intn(64)))
	}
	return l
}

// rightWords are made by Of, of each tag.
func rightWords() []word.Word {
	var l []word.Word
	for _, g := range tags {
		for _, b := range bodies() {
			if w, e := word.Of(g.tag, b); e == api.OK {
				l = append(l, w)
			}
		}
	}
	return l
}
