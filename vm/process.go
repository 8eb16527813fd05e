package vm

import (
	"exitwave/api"
	"exitwave/eval"
	"exitwave/inbox"
	"exitwave/links"
	"exitwave/mons"
	"exitwave/term"
)

// process is one that was made.
type process struct {
	pid, state int
	reason     api.Term // of one that is not alive
	trap       bool
	machine    *eval.Machine // of one that is alive, as its inbox is
	inbox      *inbox.Box
	links      *links.Table
	mons       *mons.Table
}

// add makes the next process; its machine must have been begun for nextPid.
func (v *VM) add(m *eval.Machine) *process {
	box, _ := inbox.New(v.config.Words)
	p := &process{pid: v.nextPid(), state: api.PReady, machine: m, inbox: box, links: links.New(), mons: mons.New()}
	v.procs = append(v.procs, p)
	return p
}

func (v *VM) nextPid() int { return len(v.procs) + 1 }

func (v *VM) find(pid int) (*process, bool) {
	if !within(pid, 1, len(v.procs)) {
		return nil, false
	}
	return v.procs[pid-1], true
}

// findAlive finds none of those that are exiting or have ended.
func (v *VM) findAlive(pid int) (*process, bool) {
	p, there := v.find(pid)
	if !there || p.state != api.PReady && p.state != api.PWaiting {
		return nil, false
	}
	return p, true
}

func (v *VM) isAlive(pid int) bool {
	_, is := v.findAlive(pid)
	return is
}

// look tells what can be seen of a process.
func (v *VM) look(p *process) api.Proc {
	told := api.Proc{
		Pid:     p.pid,
		State:   p.state,
		Reason:  term.Copy(p.reason),
		Trap:    p.trap,
		Links:   p.links.All(),
		Origins: p.mons.Origins(),
		Targets: p.mons.Targets(),
	}
	if p.inbox != nil {
		for _, x := range p.inbox.All() {
			told.Inbox = append(told.Inbox, x)
		}
	}
	if name, is := v.names.Of(p.pid); is {
		told.Names = []string{name}
	}
	return told
}
