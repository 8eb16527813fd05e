package vm

import "exitwave/api"

// Ask does what a machine of a process would ask; Asks tells whether there is such a thing. So terms can be handed in that no source makes.
func (v *VM) Ask(pid int, name string, l ...api.Term) (api.Term, api.Errno) {
	return v.deeds[request{name, len(l)}](v.procs[pid-1], l)
}

func (v *VM) Asks(name string, n int) bool { return v.deeds[request{name, n}] != nil }

// Lay lays a signal under way, also one that no source brings about.
func (v *VM) Lay(s api.Signal) api.Errno { return v.ether.Put(s) }
