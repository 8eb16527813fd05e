package ether

import (
	"math"

	"exitwave/api"
	"exitwave/term"
)

// maxSerial is the highest number of a process, of a reference.
const maxSerial = 1 << 40

// Check tells whether a signal may be.
func Check(s api.Signal) api.Errno {
	has, is := fieldsOf(s.Kind)
	switch {
	case !is || !within(s.From, 0, maxSerial) || !within(s.To, 1, maxSerial):
		return api.ErrArg
	case !has.fitTerm(s):
		return api.ErrTerm
	case !has.fitRest(s):
		return api.ErrArg
	}
	return api.OK
}

// fields are those that signals of a kind have beside their ends.
type fields struct{ term, id, ref, link, name bool }

// fieldsOf answers false for what is no kind.
func fieldsOf(kind int) (fields, bool) {
	switch kind {
	case api.SMessage:
		return fields{term: true}, true
	case api.SLink:
		return fields{}, true
	case api.SUnlink, api.SUnlinkAck:
		return fields{id: true}, true
	case api.SExit:
		return fields{term: true, link: true}, true
	case api.SMonitor:
		return fields{ref: true, name: true}, true
	case api.SDemonitor:
		return fields{ref: true}, true
	case api.SDown:
		return fields{ref: true, term: true}, true
	}
	return fields{}, false
}

func (has fields) fitTerm(s api.Signal) bool {
	if has.term {
		return term.Check(s.Term) == api.OK
	}
	return isZero(s.Term)
}

func (has fields) fitRest(s api.Signal) bool {
	return fitNumber(s.Id, has.id, math.MaxInt) &&
		fitNumber(s.Ref, has.ref, maxSerial) &&
		(has.link || !s.Link) &&
		(has.name || s.Name == "")
}

// fitNumber: one that a kind has is never 0, so that it cannot be taken for one that it does not have.
func fitNumber(n int, has bool, most int) bool {
	if has {
		return within(n, 1, most)
	}
	return n == 0
}

func within(n, least, most int) bool { return n >= least && n <= most }

// isZero asks for the bits of F, since -0.0 is another float than +0 (W2).
func isZero(t api.Term) bool {
	return t.Kind == 0 && t.N == 0 && math.Float64bits(t.F) == 0 && t.S == "" && len(t.L) == 0
}
