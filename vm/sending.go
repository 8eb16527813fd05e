package vm

import "exitwave/api"

// maxUnder: where so many signals are under way, nothing that is asked sends one more.
const maxUnder = 1 << 16

func (v *VM) isFull() bool { return v.ether.All() >= maxUnder }

// post sends a signal that was asked for; it refuses where there is no room.
func (v *VM) post(s api.Signal) api.Errno {
	if v.isFull() {
		return api.ErrLimit
	}
	return v.ether.Put(s)
}

func (v *VM) send(p *process, l []api.Term) (api.Term, api.Errno) {
	to, is := v.addressee(l[0])
	if !is {
		return bad()
	}
	if e := v.post(api.Signal{From: p.pid, To: to, Kind: api.SMessage, Term: l[1]}); e != api.OK {
		return api.Term{}, e
	}
	return l[1], api.OK
}

// addressee: a pid, or whose name it is.
func (v *VM) addressee(x api.Term) (int, bool) {
	if x.Kind == api.KAtom {
		return v.names.Whereis(x.S)
	}
	return pidOf(x)
}

func (v *VM) exit(p *process, l []api.Term) (api.Term, api.Errno) {
	to, is := pidOf(l[0])
	if !is {
		return bad()
	}
	if e := v.post(api.Signal{From: p.pid, To: to, Kind: api.SExit, Term: l[1]}); e != api.OK {
		return api.Term{}, e
	}
	return done(true)
}

// link asks for room ahead of changing the half-link: as it stood it could not be laid back.
func (v *VM) link(p *process, l []api.Term) (api.Term, api.Errno) {
	to, is := pidOf(l[0])
	switch {
	case !is:
		return bad()
	case to == p.pid:
		return done(true)
	case v.isFull() && !p.isLinked(to):
		return limit()
	}
	if p.links.Link(to) {
		v.ether.Put(api.Signal{From: p.pid, To: to, Kind: api.SLink})
	}
	return done(true)
}

// unlink need not ask for the process itself: it never has a half-link with itself.
func (v *VM) unlink(p *process, l []api.Term) (api.Term, api.Errno) {
	to, is := pidOf(l[0])
	switch {
	case !is:
		return bad()
	case v.isFull() && p.isLinked(to):
		return limit()
	}
	if id, sends := p.links.Unlink(to); sends {
		v.ether.Put(api.Signal{From: p.pid, To: to, Kind: api.SUnlink, Id: id})
	}
	return done(true)
}

func (p *process) isLinked(with int) bool {
	h, _ := p.links.Get(with)
	return h == api.Half{Pid: with, State: api.Linked}
}
