package vm

import (
	"exitwave/api"
	"exitwave/term"
)

func (v *VM) register(p *process, l []api.Term) (api.Term, api.Errno) {
	pid, is := pidOf(l[1])
	if l[0].Kind != api.KAtom || !is || !v.isAlive(pid) || v.names.Register(l[0].S, pid) != api.OK {
		return bad()
	}
	return done(true)
}

func (v *VM) unregister(p *process, l []api.Term) (api.Term, api.Errno) {
	if l[0].Kind != api.KAtom || v.names.Unregister(l[0].S) != api.OK {
		return bad()
	}
	return done(true)
}

func (v *VM) whereis(p *process, l []api.Term) (api.Term, api.Errno) {
	if l[0].Kind != api.KAtom {
		return bad()
	}
	pid, is := v.names.Whereis(l[0].S)
	if !is {
		return term.Atom("undefined"), api.OK
	}
	return aPid(pid), api.OK
}

func (v *VM) isProcessAlive(p *process, l []api.Term) (api.Term, api.Errno) {
	pid, is := pidOf(l[0])
	if !is {
		return bad()
	}
	return done(v.isAlive(pid))
}
