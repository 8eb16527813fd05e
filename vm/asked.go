package vm

import (
	"exitwave/api"
	"exitwave/term"
)

// request is what a machine asks: its name, and how many arguments it has.
type request struct {
	name string
	n    int
}

// deed does what is asked, of as many arguments as its request says, which are its own: what is told, or the error with which the machine is failed. Beside an error it has done nothing.
type deed func(p *process, l []api.Term) (api.Term, api.Errno)

// allDeeds has one for each builtin that asks (doc/07-check.md), and one for `!`.
func (v *VM) allDeeds() map[request]deed {
	return map[request]deed{
		{"self", 0}:             v.self,
		{"make_ref", 0}:         v.makeRef,
		{"spawn", 1}:            v.spawn,
		{"spawn_link", 1}:       v.spawnLink,
		{"spawn_monitor", 1}:    v.spawnMonitor,
		{"send", 2}:             v.send,
		{"link", 1}:             v.link,
		{"unlink", 1}:           v.unlink,
		{"monitor", 2}:          v.monitor,
		{"demonitor", 1}:        v.demonitor,
		{"demonitor", 2}:        v.demonitorBy,
		{"exit", 2}:             v.exit,
		{"process_flag", 2}:     v.processFlag,
		{"register", 2}:         v.register,
		{"unregister", 1}:       v.unregister,
		{"whereis", 1}:          v.whereis,
		{"is_process_alive", 1}: v.isProcessAlive,
		{"out", 1}:              v.lay,
	}
}

func (v *VM) answer(p *process, event api.Event) {
	do := v.deeds[request{event.S, len(event.L)}]
	told, e := do(p, event.L)
	if e != api.OK {
		p.machine.Fail(api.CError, term.Atom(e.Error()))
		return
	}
	p.machine.Give(told)
}

// Deeds that tell an error tell no term beside it.
func bad() (api.Term, api.Errno) { return api.Term{}, api.ErrBad }

func limit() (api.Term, api.Errno) { return api.Term{}, api.ErrLimit }

func done(is bool) (api.Term, api.Errno) { return aBoolean(is), api.OK }
