package vm

import (
	"exitwave/api"
	"exitwave/term"
)

// maxPid: no program may name a process above it.
const maxPid = 1 << 20

// plain is what atoms, pids and references are told apart by: as a struct it can be held against another one, as a term cannot.
type plain struct {
	kind int
	n    int64
	s    string
}

func plainOf(x api.Term) plain { return plain{x.Kind, x.N, x.S} }

func isAtom(x api.Term, s string) bool { return plainOf(x) == plain{kind: api.KAtom, s: s} }

func isBoolean(x api.Term) bool { return isAtom(x, "true") || isAtom(x, "false") }

// pidOf answers false for what is no pid, also for a KPid that no process can have.
func pidOf(x api.Term) (int, bool) {
	if x.Kind != api.KPid || x.N < 1 || x.N > maxPid {
		return 0, false
	}
	return int(x.N), true
}

func aPid(n int) api.Term { return api.Term{Kind: api.KPid, N: int64(n)} }

func aRef(n int) api.Term { return api.Term{Kind: api.KRef, N: int64(n)} }

func aBoolean(is bool) api.Term {
	if is {
		return term.Atom("true")
	}
	return term.Atom("false")
}
