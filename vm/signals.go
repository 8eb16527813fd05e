package vm

import (
	"exitwave/api"
	"exitwave/exits"
	"exitwave/term"
)

// deliver is nothing where the lane has no signals.
func (v *VM) deliver(from, to int) {
	s, is := v.ether.Take(from, to)
	if !is {
		return
	}
	if p, is := v.findAlive(to); is {
		v.takeIn(p, s)
		return
	}
	if answer, is := exits.Dead(s); is {
		v.ether.Put(answer)
	}
}

func (v *VM) takeIn(p *process, s api.Signal) {
	switch s.Kind {
	case api.SMessage:
		v.put(p, s.Term)
	case api.SLink:
		p.links.OnLink(s.From)
	case api.SUnlink:
		p.links.OnUnlink(s.From)
		v.ether.Put(api.Signal{From: p.pid, To: s.From, Kind: api.SUnlinkAck, Id: s.Id})
	case api.SUnlinkAck:
		p.links.OnAck(s.From, s.Id)
	case api.SExit:
		v.takeExit(p, s)
	case api.SMonitor:
		p.mons.OnMonitor(s.Ref, s.From)
	case api.SDemonitor:
		p.mons.OnDemonitor(s.Ref)
	case api.SDown:
		v.takeDown(p, s)
	}
}

func (v *VM) takeExit(p *process, s api.Signal) {
	if s.Link && !p.links.OnExit(s.From) {
		return
	}
	x, _ := exits.Act(s, p.trap)
	v.undergo(p, x)
}

func (v *VM) takeDown(p *process, s api.Signal) {
	m, is := p.mons.OnDown(s.Ref)
	if !is {
		return
	}
	x, _ := exits.Down(s, m)
	v.undergo(p, x)
}

func (v *VM) undergo(p *process, x exits.Outcome) {
	switch x.Kind {
	case exits.Message:
		v.put(p, x.Term)
	case exits.Ends:
		v.end(p, x.Term)
	}
}

// put ends the process, if its inbox has no room.
func (v *VM) put(p *process, x api.Term) {
	if p.inbox.Put(x) != api.OK {
		v.end(p, term.Atom("heap_limit"))
		return
	}
	p.state = api.PReady
}
