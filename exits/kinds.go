package exits

import (
	"exitwave/api"
	"exitwave/term"
)

// The kinds of signals that this layer has something to say of are types of their own, each with the fields of that kind alone: none that it does not have can be asked for.
type (
	link   struct{ ends }
	unlink struct {
		ends
		id int
	}
	exit struct {
		ends
		link   bool
		reason api.Term
	}
	monitor struct {
		ends
		ref int
	}
	down struct {
		ends
		ref    int
		reason api.Term
	}
)

// ends are those that each signal has.
type ends struct{ from, to int }

// byKind answers nil for a signal of any other kind.
func byKind(s api.Signal) any {
	e := ends{s.From, s.To}
	switch s.Kind {
	case api.SLink:
		return link{e}
	case api.SUnlink:
		return unlink{e, s.Id}
	case api.SExit:
		return exit{e, s.Link, s.Term}
	case api.SMonitor:
		return monitor{e, s.Ref}
	case api.SDown:
		return down{e, s.Ref, s.Term}
	}
	return nil
}

// deadAnswer does not ask who sent: nobody (0) is answered by Dead alone.
func deadAnswer(came any) (api.Signal, bool) {
	switch x := came.(type) {
	case link:
		return linkedExit(x.to, x.from, term.Atom("noproc")), true
	case unlink:
		return api.Signal{From: x.to, To: x.from, Kind: api.SUnlinkAck, Id: x.id}, true
	case monitor:
		return downSignal(x.to, x.from, x.ref, term.Atom("noproc")), true
	}
	return api.Signal{}, false
}

// linkedExit and downSignal copy the reason, since one reason goes along many half-links and monitors.
func linkedExit(from, to int, reason api.Term) api.Signal {
	return api.Signal{From: from, To: to, Kind: api.SExit, Link: true, Term: term.Copy(reason)}
}

func downSignal(from, to, ref int, reason api.Term) api.Signal {
	return api.Signal{From: from, To: to, Kind: api.SDown, Ref: ref, Term: term.Copy(reason)}
}
