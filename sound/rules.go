package sound

import (
	"cmp"

	"exitwave/api"
)

// breaks tells whether the process at a place breaks a rule. Those from Calm on are asked only of a state that is calmed.
func (v *view) breaks(r Rule, place int) bool {
	p := v.procs[place]
	switch r {
	case Order:
		return p.Pid != place+1 || !hasOrder(p)
	case Ghost:
		return isGhost(p)
	case Alive:
		return isOutOfLife(p)
	case Named:
		return v.isMisnamed(p)
	case Calm:
		return isUnsettled(p)
	case Mutual:
		return isAlive(p) && v.isLinkedAlone(p)
	case Dead:
		return isAlive(p) && v.holdsDead(p)
	case Paired:
		return isAlive(p) && v.isUnpaired(p)
	}
	return false
}

func isAlive(p api.Proc) bool { return p.State == api.PReady || p.State == api.PWaiting }

func hasOrder(p api.Proc) bool {
	return isRising(p.Links, comparePids) && isRising(p.Origins, compareRefs) && isRising(p.Targets, compareRefs)
}

func comparePids(a, b api.Half) int { return cmp.Compare(a.Pid, b.Pid) }

func compareRefs(a, b api.Mon) int { return cmp.Compare(a.Ref, b.Ref) }

func isGhost(p api.Proc) bool {
	for _, h := range p.Links {
		if h.State != api.Linked && h.State != api.Unlinking || (h.Id > 0) != (h.State == api.Unlinking) {
			return true
		}
	}
	return !isAlive(p) && p.State != api.PExiting && p.State != api.PEnded
}

// isOutOfLife tells whether a process has what one in its state must not have.
func isOutOfLife(p api.Proc) bool {
	lives := len(p.Inbox) > 0 || len(p.Names) > 0 || p.Trap
	holds := len(p.Links) > 0 || len(p.Origins) > 0 || len(p.Targets) > 0
	switch p.State {
	case api.PReady, api.PWaiting:
		return p.Reason.Kind != 0
	case api.PExiting:
		return lives
	case api.PEnded:
		return lives || holds
	}
	return false
}

func (v *view) isMisnamed(p api.Proc) bool {
	for _, name := range p.Names {
		if v.names[name] > 1 {
			return true
		}
	}
	return len(p.Names) > 1
}

// isUnsettled is asked of any process, also of one that is not alive.
func isUnsettled(p api.Proc) bool {
	for _, h := range p.Links {
		if h.State != api.Linked {
			return true
		}
	}
	return false
}

func (v *view) isLinkedAlone(p api.Proc) bool {
	for _, h := range p.Links {
		if !v.has(tie{aLink, h.Pid, 0, p.Pid}) {
			return true
		}
	}
	return false
}

func (v *view) holdsDead(p api.Proc) bool {
	for _, h := range p.Links {
		if v.isGone(h.Pid) {
			return true
		}
	}
	for _, m := range p.Origins {
		if m.Pid != 0 && v.isGone(m.Pid) {
			return true
		}
	}
	for _, m := range p.Targets {
		if v.isGone(m.Pid) {
			return true
		}
	}
	return false
}

func (v *view) isUnpaired(p api.Proc) bool {
	for _, m := range p.Origins {
		if m.Pid != 0 && !v.has(tie{aTarget, m.Pid, m.Ref, p.Pid}) {
			return true
		}
	}
	for _, m := range p.Targets {
		if !v.has(tie{anOrigin, m.Pid, m.Ref, p.Pid}) {
			return true
		}
	}
	return false
}
