package vm

import (
	"exitwave/api"
	"exitwave/exits"
	"exitwave/term"
)

// run is nothing of a process that waits or has ended, nor with fuel that may not be.
func (v *VM) run(pid, fuel int) {
	p, there := v.find(pid)
	if !there || !within(fuel, 0, api.MaxFuel) {
		return
	}
	left := v.live(p, fuel)
	if p.state == api.PExiting {
		v.part(p, left)
	}
}

// live goes on as long as the process is ready, and tells how much fuel is left. It stops without fuel, too, since a machine cannot turn round without a call.
func (v *VM) live(p *process, fuel int) int {
	for p.state == api.PReady {
		var event api.Event
		event, fuel = p.machine.Run(fuel)
		switch event.Kind {
		case api.VDone:
			v.end(p, term.Atom("normal"))
		case api.VRaise:
			reason, _ := exits.Reason(event.Class, event.Term)
			v.end(p, reason)
		case api.VAsk:
			v.answer(p, event)
		case api.VWait:
			p.receive(event.Zero)
		default: // its fuel is spent
			return fuel
		}
	}
	return fuel
}

// receive offers only those messages that were not looked at: at one receive none is offered twice.
func (p *process) receive(zero bool) {
	for x, is := p.inbox.Next(); is; x, is = p.inbox.Next() {
		if taken, _ := p.machine.Offer(x); taken {
			p.inbox.Take()
			return
		}
	}
	if !zero {
		p.state = api.PWaiting
		return
	}
	p.inbox.Rewind()
	p.machine.After()
}

// end sends nothing: that costs the process fuel of its own.
func (v *VM) end(p *process, reason api.Term) {
	v.names.Release(p.pid)
	p.state, p.reason = api.PExiting, reason
	p.trap, p.machine, p.inbox = false, nil, nil
}

func (v *VM) kill(pid int) {
	if p, is := v.findAlive(pid); is {
		v.end(p, term.Atom("killed"))
	}
}

// part lets go of the halves of one that is exiting, as far as its fuel reaches. Nothing that comes changes them any more.
func (v *VM) part(p *process, fuel int) {
	for _, h := range p.links.All() {
		s, sends := exits.Emit(p.pid, p.reason, h)
		if !v.pay(s, sends, &fuel) {
			return
		}
		p.links.Pop()
	}
	for _, m := range p.mons.Targets() {
		if !v.pay(exits.Tell(p.pid, p.reason, m), true, &fuel) {
			return
		}
		p.mons.PopTarget()
	}
	for _, m := range p.mons.Origins() {
		s, sends := exits.Leave(p.pid, m)
		if !v.pay(s, sends, &fuel) {
			return
		}
		p.mons.PopOrigin()
	}
	p.state = api.PEnded
}

// pay sends what a half has to send for one of fuel; it answers whether the half may go.
func (v *VM) pay(s api.Signal, sends bool, fuel *int) bool {
	if !sends {
		return true
	}
	if *fuel == 0 {
		return false
	}
	*fuel--
	v.ether.Put(s)
	return true
}
