package exits

import (
	"strings"

	"exitwave/api"
	"exitwave/term"
)

// maxSerial is the highest number of a process.
const maxSerial = 1 << 40

// exitOutcome, downOutcome refuse what is of another kind.
func exitOutcome(came any, trap bool) (Outcome, api.Errno) {
	switch x := came.(type) {
	case exit:
		return x.outcome(trap), api.OK
	}
	return Outcome{}, api.ErrArg
}

func downOutcome(came any, m api.Mon) (Outcome, api.Errno) {
	switch x := came.(type) {
	case down:
		return x.outcome(m)
	}
	return Outcome{}, api.ErrArg
}

// outcome asks for kill ahead of trap, and for it only where no link brought it: who is linked with a process that was killed may trap that.
func (x exit) outcome(trap bool) Outcome {
	switch {
	case !x.link && isAtom(x.reason, "kill"):
		return Outcome{Kind: Ends, Term: term.Atom("killed")}
	case trap:
		return message(x.reason, term.Atom("EXIT"), serial(api.KPid, x.from))
	case isAtom(x.reason, "normal") && (x.link || x.from != x.to):
		return Outcome{Kind: Nothing}
	}
	return Outcome{Kind: Ends, Term: term.Copy(x.reason)}
}

func (x down) outcome(m api.Mon) (Outcome, api.Errno) {
	if !fitsMessage(m) {
		return Outcome{}, api.ErrTerm
	}
	return message(x.reason, term.Atom("DOWN"), serial(api.KRef, x.ref), term.Atom("process"), watched(m)), api.OK
}

// message is a tuple of the front and the reason. The front is short, so only the reason can be what a limit refuses.
func message(reason api.Term, front ...api.Term) Outcome {
	t, e := term.Tuple(append(front, reason)...)
	if e != api.OK {
		t, _ = term.Tuple(append(front, systemLimit())...)
	}
	return Outcome{Kind: Message, Term: t}
}

func systemLimit() api.Term { return term.Atom("system_limit") }

// fitsMessage asks for the pid also where a name stands in its place: the chapter does.
func fitsMessage(m api.Mon) bool {
	return len(m.Name) <= api.MaxAtom && m.Pid >= 0 && m.Pid <= maxSerial
}

// watched is the target as the origin asked for it.
func watched(m api.Mon) api.Term {
	if m.Name != "" {
		return term.Atom(strings.Clone(m.Name))
	}
	return serial(api.KPid, m.Pid)
}

// serial is a pid or a reference.
func serial(kind, n int) api.Term { return api.Term{Kind: kind, N: int64(n)} }

func isAtom(t api.Term, s string) bool { return t.Kind == api.KAtom && t.S == s }
