package vm

import "exitwave/api"

// maxOut is how long the output may be.
const maxOut = 1 << 16

func (v *VM) self(p *process, l []api.Term) (api.Term, api.Errno) { return aPid(p.pid), api.OK }

func (v *VM) processFlag(p *process, l []api.Term) (api.Term, api.Errno) {
	if !isAtom(l[0], "trap_exit") || !isBoolean(l[1]) {
		return bad()
	}
	was := p.trap
	p.trap = isAtom(l[1], "true")
	return done(was)
}

func (v *VM) lay(p *process, l []api.Term) (api.Term, api.Errno) {
	if len(v.out) >= maxOut {
		return limit()
	}
	v.out = append(v.out, l[0])
	return done(true)
}
