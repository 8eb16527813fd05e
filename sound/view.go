package sound

import "exitwave/api"

// Kinds of halves.
const (
	aLink = iota
	anOrigin
	aTarget
)

// tie is a half that a process has: of which kind, whose, by which reference (0 of a half-link), with whom.
type tie struct{ kind, of, ref, with int }

// view is processes, with what is asked of all of them together. It is gathered once, so that a half is not looked for in all halves of another process.
type view struct {
	procs []api.Proc
	first map[int]int    // the place of the first process with a Pid: the one that a half names
	names map[string]int // how many there are of each
	ties  map[tie]int    // how many there are of each
}

// find tells a process as it is: whoever hands it out copies it.
func find(procs []api.Proc, pid int) (api.Proc, bool) {
	for _, p := range procs {
		if p.Pid == pid {
			return p, true
		}
	}
	return api.Proc{}, false
}

func look(procs []api.Proc) *view {
	v := &view{procs, map[int]int{}, map[string]int{}, map[tie]int{}}
	for place, p := range procs {
		for _, name := range p.Names {
			v.names[name]++
		}
		if _, there := v.first[p.Pid]; !there {
			v.first[p.Pid] = place
			v.tieAll(p)
		}
	}
	return v
}

func (v *view) tieAll(p api.Proc) {
	for _, h := range p.Links {
		v.ties[tie{aLink, p.Pid, 0, h.Pid}]++
	}
	for _, m := range p.Origins {
		v.ties[tie{anOrigin, p.Pid, m.Ref, m.Pid}]++
	}
	for _, m := range p.Targets {
		v.ties[tie{aTarget, p.Pid, m.Ref, m.Pid}]++
	}
}

func (v *view) has(t tie) bool { return v.ties[t] > 0 }

// isGone tells whether the process has ended, or is not there.
func (v *view) isGone(pid int) bool {
	place, there := v.first[pid]
	return !there || v.procs[place].State == api.PEnded
}
