package vm

import (
	"exitwave/api"
	"exitwave/exits"
	"exitwave/term"
)

func (v *VM) monitor(p *process, l []api.Term) (api.Term, api.Errno) {
	to, name, is := v.watched(l[1])
	switch {
	case !isAtom(l[0], "process") || !is:
		return bad()
	case !v.hasRef():
		return limit()
	case to == p.pid:
		return aRef(v.newRef()), api.OK
	case v.isFull():
		return limit()
	}
	ref := v.newRef()
	p.mons.Watch(ref, to, name)
	v.ether.Put(watching(p.pid, to, ref, name))
	return aRef(ref), api.OK
}

// watched tells who is to be watched, and by which name that was asked for: 0 where it is none's.
func (v *VM) watched(x api.Term) (pid int, name string, is bool) {
	if x.Kind == api.KAtom {
		pid, _ = v.names.Whereis(x.S)
		return pid, x.S, x.S != ""
	}
	pid, is = pidOf(x)
	return pid, "", is
}

// watching is what a monitor sends: nobody (0) cannot be asked, so its end is told at once.
func watching(origin, target, ref int, name string) api.Signal {
	if target == 0 {
		return api.Signal{From: 0, To: origin, Kind: api.SDown, Ref: ref, Term: term.Atom("noproc")}
	}
	return api.Signal{From: origin, To: target, Kind: api.SMonitor, Ref: ref, Name: name}
}

func (v *VM) demonitor(p *process, l []api.Term) (api.Term, api.Errno) {
	if l[0].Kind != api.KRef {
		return bad()
	}
	if _, e := v.unwatch(p, l[0]); e != api.OK {
		return api.Term{}, e
	}
	return done(true)
}

func (v *VM) demonitorBy(p *process, l []api.Term) (api.Term, api.Errno) {
	how, is := optionsOf(l[1])
	if l[0].Kind != api.KRef || !is {
		return bad()
	}
	was, e := v.unwatch(p, l[0])
	if e != api.OK {
		return api.Term{}, e
	}
	if how.flush && !was {
		p.flush(l[0])
	}
	return done(was || !how.info)
}

// unwatch tells whether there was an origin. It is laid back where there is no room for what it sends.
func (v *VM) unwatch(p *process, ref api.Term) (was bool, e api.Errno) {
	m, was := p.mons.Demonitor(int(ref.N))
	s, sends := exits.Leave(p.pid, m)
	if !sends {
		return was, api.OK
	}
	if e := v.post(s); e != api.OK {
		p.mons.Watch(m.Ref, m.Pid, m.Name)
		return false, e
	}
	return true, api.OK
}

// options are those of demonitor.
type options struct{ flush, info bool }

func optionsOf(x api.Term) (how options, is bool) {
	if x.Kind != api.KList {
		return options{}, false
	}
	for _, option := range x.L {
		switch {
		case isAtom(option, "flush"):
			how.flush = true
		case isAtom(option, "info"):
			how.info = true
		default:
			return options{}, false
		}
	}
	return how, true
}

// flush takes out what looks like a message of that monitor, whoever made it.
func (p *process) flush(ref api.Term) {
	isDown := func(x api.Term) bool {
		return x.Kind == api.KTuple && len(x.L) == 5 && isAtom(x.L[0], "DOWN") && plainOf(x.L[1]) == plainOf(ref)
	}
	for there := true; there; {
		_, there = p.inbox.Drop(isDown)
	}
}
