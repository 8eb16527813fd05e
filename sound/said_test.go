package sound_test

import (
	"slices"

	"exitwave/api"
	"exitwave/sound"
)

// said says P2001's table once more, in other words than the program's: what each rule speaks of is gone through from one end to the other.
func said(s api.State) []sound.Rule {
	var l []sound.Rule
	for i, broken := range []bool{orderBroken(s), ghostBroken(s), aliveBroken(s), namedBroken(s), calmBroken(s), mutualBroken(s), deadBroken(s), pairedBroken(s)} {
		if broken && (i < 4 || saidCalmed(s)) {
			l = append(l, sound.Rule(i+1))
		}
	}
	return l
}

func saidCalmed(s api.State) bool {
	signals := 0
	for _, l := range s.Lanes {
		signals += len(l.Signals)
	}
	return signals == 0 && !slices.ContainsFunc(s.Procs, func(p api.Proc) bool { return p.State == 3 })
}

func orderBroken(s api.State) bool {
	broken := false
	for i, p := range s.Procs {
		broken = broken || p.Pid-i != 1
		for j := range p.Links {
			for k := range j {
				broken = broken || p.Links[k].Pid >= p.Links[j].Pid
			}
		}
		for _, l := range [][]api.Mon{p.Origins, p.Targets} {
			for j := range l {
				for k := range j {
					broken = broken || l[k].Ref >= l[j].Ref
				}
			}
		}
	}
	for i, a := range s.Lanes {
		broken = broken || len(a.Signals) == 0
		for _, x := range a.Signals {
			broken = broken || x.From != a.From || x.To != a.To
		}
		for _, b := range s.Lanes[:i] {
			broken = broken || b.From > a.From || b.From == a.From && b.To >= a.To
		}
	}
	return broken
}

func ghostBroken(s api.State) bool {
	broken := false
	for _, p := range s.Procs {
		broken = broken || p.State < 1 || p.State > 4
		for _, h := range p.Links {
			linked, unlinking := h.State == 1 && h.Id <= 0, h.State == 2 && h.Id >= 1
			broken = broken || !linked && !unlinking
		}
	}
	return broken
}

func aliveBroken(s api.State) bool {
	broken := false
	for _, p := range s.Procs {
		messages, names, halves := len(p.Inbox), len(p.Names), len(p.Links)+len(p.Origins)+len(p.Targets)
		broken = broken || (p.State == 3 || p.State == 4) && (messages+names > 0 || p.Trap)
		broken = broken || p.State == 4 && halves > 0
		broken = broken || lives(p) && p.Reason.Kind != 0
	}
	return broken
}

func lives(p api.Proc) bool { return p.State == 1 || p.State == 2 }

func namedBroken(s api.State) bool {
	broken := false
	var names []string
	for _, p := range s.Procs {
		broken = broken || len(p.Names) > 1
		names = append(names, p.Names...)
	}
	slices.Sort(names)
	return broken || len(slices.Compact(slices.Clone(names))) < len(names)
}

func calmBroken(s api.State) bool {
	broken := false
	for _, p := range s.Procs {
		for _, h := range p.Links {
			broken = broken || h.State != 1
		}
	}
	return broken
}

// whoIs is the first process with that Pid, or nothing.
func whoIs(s api.State, pid int) []api.Proc {
	for i, p := range s.Procs {
		if p.Pid == pid {
			return s.Procs[i : i+1]
		}
	}
	return nil
}

func mutualBroken(s api.State) bool {
	broken := false
	for _, p := range s.Procs {
		for _, h := range p.Links {
			back := false
			for _, q := range whoIs(s, h.Pid) {
				back = slices.ContainsFunc(q.Links, func(h api.Half) bool { return h.Pid == p.Pid })
			}
			broken = broken || lives(p) && !back
		}
	}
	return broken
}

func deadBroken(s api.State) bool {
	broken := false
	for _, p := range s.Procs {
		var pids []int
		for _, h := range p.Links {
			pids = append(pids, h.Pid)
		}
		for _, m := range p.Targets {
			pids = append(pids, m.Pid)
		}
		for _, m := range p.Origins {
			if m.Pid != 0 {
				pids = append(pids, m.Pid)
			}
		}
		for _, n := range pids {
			l := whoIs(s, n)
			broken = broken || lives(p) && (len(l) == 0 || l[0].State == 4)
		}
	}
	return broken
}

func pairedBroken(s api.State) bool {
	broken := false
	for _, p := range s.Procs {
		for i, m := range slices.Concat(p.Origins, p.Targets) {
			isOrigin := i < len(p.Origins)
			found := isOrigin && m.Pid == 0
			for _, q := range whoIs(s, m.Pid) {
				l := q.Targets
				if !isOrigin {
					l = q.Origins
				}
				for _, other := range l {
					found = found || other.Ref == m.Ref && other.Pid == p.Pid
				}
			}
			broken = broken || lives(p) && !found
		}
	}
	return broken
}
