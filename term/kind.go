package term

import (
	"cmp"
	"math"
	"strings"

	"exitwave/api"
	"exitwave/num"
)

// maxSerial is the highest number of a reference, of a pid.
const maxSerial = 1 << 40

// kind is what terms of one kind have of their own; of a term's elements none of its methods but compare and write asks anything.
type kind interface {
	right(t api.Term) bool
	words(t api.Term) int
	rank() int
	compare(a, b api.Term) int // of two of its rank
	write(to *strings.Builder, t api.Term)
}

// kindOf answers unknown for what is no kind, which is counted, but never right.
func kindOf(t api.Term) kind {
	switch t.Kind {
	case api.KInt:
		return whole{}
	case api.KFloat:
		return float{}
	case api.KAtom:
		return atom{}
	case api.KRef:
		return reference{}
	case api.KFun:
		return function{}
	case api.KPid:
		return pid{}
	case api.KTuple:
		return tuple{}
	case api.KList:
		return list{}
	}
	return unknown{}
}

// Places of the kinds in the order (W4).
const (
	rankNumber = iota
	rankAtom
	rankReference
	rankFunction
	rankPid
	rankTuple
	rankList
)

// Fields that kinds have beside Kind; F is had by floats alone, which package num looks at.
const (
	hasN = 1 << iota
	hasS
	hasL
)

// zeroBut tells whether the fields of t but those of has are zero. Of F that is +0 alone: -0.0 is another float.
func zeroBut(t api.Term, has int) bool {
	return math.Float64bits(t.F) == 0 &&
		(has&hasN != 0 || t.N == 0) &&
		(has&hasS != 0 || t.S == "") &&
		(has&hasL != 0 || len(t.L) == 0)
}

// number is what whole numbers and floats have in common; what a right one is, and their order, is package num's.
type number struct{}

func (number) right(t api.Term) bool {
	_, e := num.Real(t)
	return e == api.OK
}

func (number) rank() int { return rankNumber }

func (number) compare(a, b api.Term) int { return num.Cmp(a, b) }

func (number) write(to *strings.Builder, t api.Term) { to.WriteString(num.Text(t)) }

type whole struct{ number }

func (whole) words(api.Term) int { return 0 }

type float struct{ number }

func (float) words(api.Term) int { return 2 }

type atom struct{}

func (atom) right(t api.Term) bool { return len(t.S) <= api.MaxAtom && zeroBut(t, hasS) }

func (atom) words(api.Term) int { return 0 }

func (atom) rank() int { return rankAtom }

func (atom) compare(a, b api.Term) int { return strings.Compare(a.S, b.S) }

func (atom) write(to *strings.Builder, t api.Term) { writeAtom(to, t.S) }

// serial is what references and pids have in common.
type serial struct{}

func (serial) right(t api.Term) bool { return t.N >= 0 && t.N <= maxSerial && zeroBut(t, hasN) }

func (serial) compare(a, b api.Term) int { return cmp.Compare(a.N, b.N) }

type reference struct{ serial }

func (reference) words(api.Term) int { return 2 }

func (reference) rank() int { return rankReference }

func (reference) write(to *strings.Builder, t api.Term) { writeSerial(to, "#Ref", t.N) }

type pid struct{ serial }

func (pid) words(api.Term) int { return 0 }

func (pid) rank() int { return rankPid }

func (pid) write(to *strings.Builder, t api.Term) { writeSerial(to, "#Pid", t.N) }

type function struct{}

func (function) right(t api.Term) bool {
	return t.N >= 0 && t.N <= api.MaxNodes && zeroBut(t, hasN|hasL)
}

func (function) words(t api.Term) int { return 2 + len(t.L) }

func (function) rank() int { return rankFunction }

func (function) compare(a, b api.Term) int {
	if c := cmp.Compare(a.N, b.N); c != 0 {
		return c
	}
	return compareAll(a.L, b.L)
}

func (function) write(to *strings.Builder, t api.Term) {
	writeSerial(to, "#Fun", t.N)
	if len(t.L) > 0 {
		writeAll(to, '[', t.L, ']')
	}
}

type tuple struct{}

func (tuple) right(t api.Term) bool { return zeroBut(t, hasL) }

func (tuple) words(t api.Term) int { return 1 + len(t.L) }

func (tuple) rank() int { return rankTuple }

func (tuple) compare(a, b api.Term) int {
	if c := cmp.Compare(len(a.L), len(b.L)); c != 0 {
		return c
	}
	return compareAll(a.L, b.L)
}

func (tuple) write(to *strings.Builder, t api.Term) { writeAll(to, '{', t.L, '}') }

type list struct{}

func (list) right(t api.Term) bool { return zeroBut(t, hasL) }

func (list) words(t api.Term) int { return 2 * len(t.L) }

func (list) rank() int { return rankList }

func (list) compare(a, b api.Term) int { return compareAll(a.L, b.L) }

func (list) write(to *strings.Builder, t api.Term) { writeAll(to, '[', t.L, ']') }

// unknown is counted as a tuple is.
type unknown struct{ tuple }

func (unknown) right(api.Term) bool { return false }
