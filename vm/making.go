package vm

import (
	"exitwave/api"
	"exitwave/eval"
	"exitwave/term"
)

func (v *VM) makeRef(p *process, l []api.Term) (api.Term, api.Errno) {
	if !v.hasRef() {
		return limit()
	}
	return aRef(v.newRef()), api.OK
}

func (v *VM) hasRef() bool { return v.refs < v.config.Refs }

// newRef must be asked for only where hasRef holds.
func (v *VM) newRef() int {
	v.refs++
	return v.refs
}

func (v *VM) spawn(p *process, l []api.Term) (api.Term, api.Errno) {
	m, e := v.begin(l[0])
	if e != api.OK {
		return api.Term{}, e
	}
	return aPid(v.add(m).pid), api.OK
}

func (v *VM) spawnLink(p *process, l []api.Term) (api.Term, api.Errno) {
	m, e := v.begin(l[0])
	if e != api.OK {
		return api.Term{}, e
	}
	child := v.add(m)
	p.links.Set(child.pid)
	child.links.Set(p.pid)
	return aPid(child.pid), api.OK
}

func (v *VM) spawnMonitor(p *process, l []api.Term) (api.Term, api.Errno) {
	m, e := v.begin(l[0])
	if e != api.OK {
		return api.Term{}, e
	}
	if !v.hasRef() {
		return limit()
	}
	child, ref := v.add(m), v.newRef()
	p.mons.Watch(ref, child.pid, "")
	child.mons.OnMonitor(ref, p.pid)
	return term.Tuple(aPid(child.pid), aRef(ref))
}

// begin tells a machine for the next process, which is not made yet. It asks for the fun ahead of the limit, since badarg comes first.
func (v *VM) begin(fun api.Term) (*eval.Machine, api.Errno) {
	m, e := eval.New(v.tree, fun, nil, v.nextPid())
	switch {
	case e != api.OK:
		return nil, api.ErrBad
	case len(v.procs) >= v.config.Procs:
		return nil, api.ErrLimit
	}
	return m, api.OK
}
