package names

import "exitwave/api"

// unnamed is what whereis tells of a name that is none's: as a name it could not be told from that.
const unnamed = "undefined"

// owner is whose a name is.
type owner struct {
	pid int
}

// named is what a process is called: kept beside the owners, so that Of and Release need not go through all names.
type named struct {
	name string
}

// mayBe tells whether a name is one that some process may have.
func mayBe(name string) bool {
	return name != "" && len(name) <= api.MaxAtom && name != unnamed
}

func (n *Names) isTaken(name string) bool {
	_, there := n.owners[name]
	return there
}

func (n *Names) isNamed(pid int) bool {
	_, there := n.named[pid]
	return there
}

// enter and strike alone change the two maps, always both: so Whereis and Of agree (P1703).
func (n *Names) enter(name string, pid int) {
	if n.owners == nil {
		n.owners, n.named = map[string]owner{}, map[int]named{}
	}
	n.owners[name] = owner{pid}
	n.named[pid] = named{name}
}

func (n *Names) strike(name string, pid int) {
	delete(n.owners, name)
	delete(n.named, pid)
}
