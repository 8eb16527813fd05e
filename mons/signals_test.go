package mons_test

import (
	"math/rand"
	"slices"
	"testing"

	"exitwave/api"
)

// moves are those that may be done next, with so many references at most.
func (c *crowd) moves(most int) []move {
	var l []move
	for _, lane := range c.lanes.Lanes() {
		l = append(l, move{"deliver", lane.To, lane.From})
	}
	for pid := 1; pid <= len(c.procs); pid++ {
		if c.alive(pid) {
			l = append(l, move{"end", pid, 0})
			l = append(l, c.calls(pid, most)...)
		} else if c.proc(pid).state == api.PExiting {
			l = append(l, move{"leave", pid, 0})
		}
	}
	return l
}

// calls are those of one that is alive.
func (c *crowd) calls(who, most int) []move {
	var l []move
	for ref := 1; ref <= len(c.watches); ref++ {
		l = append(l, move{"demonitor", who, ref})
	}
	for of := 0; of <= len(c.procs) && len(c.watches) < most; of++ {
		if of != who {
			l = append(l, move{"monitor", who, of})
		}
	}
	return l
}

func replayed(t *testing.T, many int, done []move) *crowd {
	t.Helper()
	c := newCrowd(many)
	for _, m := range done {
		c.do(t, m)
	}
	return c
}

// every goes through all states that so many processes can reach with so many references, and answers how many there are.
func every(t *testing.T, many, refs int) int {
	t.Helper()
	seen := map[string]struct{}{}
	ahead := []*crowd{newCrowd(many)}
	for len(ahead) > 0 {
		c := ahead[0]
		ahead = ahead[1:]
		for _, m := range c.moves(refs) {
			next := replayed(t, many, append(slices.Clone(c.done), m))
			next.check(t)
			if _, was := seen[next.key()]; !was {
				seen[next.key()] = struct{}{}
				ahead = append(ahead, next)
			}
		}
	}
	return len(seen)
}

// Tables of few processes, all orders of monitors, demonitors, ends and deliveries: of each reference at most one message comes, none behind demonitor, and just one, where the target has ended (T5, T6); whenever all is calm both halves are there, or neither (T7).
func TestP1504EveryRun(t *testing.T) {
	for _, c := range []struct{ procs, refs, least int }{{2, 1, 300}, {2, 2, 10000}, {3, 1, 2000}} {
		if n := every(t, c.procs, c.refs); n < c.least {
			t.Errorf("%d states of %d processes: too few to tell", n, c.procs)
		}
	}
}

// Runs that are made by chance, of more processes with many references.
func TestP1504Crowds(t *testing.T) {
	r := rand.New(rand.NewSource(1506))
	for range 300 {
		c := newCrowd(3)
		for range 8 {
			likely := r.Intn(4)
			for range 40 {
				c.doByChance(t, r, likely)
			}
			for c.lanes.All() > 0 {
				lane := c.lanes.Lanes()[0]
				c.do(t, move{"deliver", lane.To, lane.From})
			}
			c.check(t)
		}
	}
}

// doByChance draws one of the moves: a delivery the more often, the more likely it is.
func (c *crowd) doByChance(t *testing.T, r *rand.Rand, likely int) {
	t.Helper()
	who, of := 1+r.Intn(len(c.procs)), r.Intn(len(c.procs)+1)
	lanes := c.lanes.Lanes()
	switch n := r.Intn(8); {
	case n < likely && len(lanes) > 0:
		lane := lanes[r.Intn(len(lanes))]
		c.do(t, move{"deliver", lane.To, lane.From})
	case !c.alive(who):
		c.do(t, move{"leave", who, 0})
	case n == 7 && r.Intn(6) == 0:
		c.do(t, move{"end", who, 0})
	case n == 6 && len(c.procs) < 8:
		c.do(t, move{"spawn", who, 0})
	case n == 5 && len(c.watches) > 0:
		c.do(t, move{"demonitor", who, 1 + r.Intn(len(c.watches))})
	case of != who:
		c.do(t, move{"monitor", who, of})
	}
}
