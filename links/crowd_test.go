package links_test

import (
	"math/rand"
	"testing"

	"exitwave/api"
	"exitwave/ether"
	"exitwave/links"
)

// crowd is some processes, by their pids from 1 on, and what is under way between them.
type crowd struct {
	tables []*links.Table
	lanes  *ether.Ether
}

func (c *crowd) table(pid int) *links.Table { return c.tables[pid-1] }

// spawnLink makes a process that is linked with its maker from the beginning (chapter 18).
func (c *crowd) spawnLink(maker int) {
	c.tables = append(c.tables, links.New())
	pid := len(c.tables)
	c.table(maker).Set(pid)
	c.table(pid).Set(maker)
}

func (c *crowd) put(t *testing.T, s api.Signal) {
	t.Helper()
	if e := c.lanes.Put(s); e != api.OK {
		t.Fatalf("%v is no signal: %v", s, e)
	}
}

func (c *crowd) link(t *testing.T, from, to int) {
	t.Helper()
	if c.table(from).Link(to) {
		c.put(t, api.Signal{From: from, To: to, Kind: api.SLink})
	}
}

func (c *crowd) unlink(t *testing.T, from, to int) {
	t.Helper()
	if id, is := c.table(from).Unlink(to); is {
		c.put(t, api.Signal{From: from, To: to, Kind: api.SUnlink, Id: id})
	}
}

// deliver takes in the first signal of a lane that is drawn by chance.
func (c *crowd) deliver(t *testing.T, r *rand.Rand) {
	t.Helper()
	lanes := c.lanes.Lanes()
	if len(lanes) == 0 {
		return
	}
	lane := lanes[r.Intn(len(lanes))]
	s, _ := c.lanes.Take(lane.From, lane.To)
	switch x := c.table(s.To); s.Kind {
	case api.SLink:
		x.OnLink(s.From)
	case api.SUnlink:
		x.OnUnlink(s.From)
		c.put(t, api.Signal{From: s.To, To: s.From, Kind: api.SUnlinkAck, Id: s.Id})
	case api.SUnlinkAck:
		x.OnAck(s.From, s.Id)
	}
}

// expectCalm wants that who has a half-link with whom, both have it, as Linked.
func (c *crowd) expectCalm(t *testing.T) {
	t.Helper()
	for pid := 1; pid <= len(c.tables); pid++ {
		for _, h := range c.table(pid).All() {
			if h != linked(h.Pid) {
				t.Errorf("P1404: %d has %v, and no signal is under way", pid, h)
			}
			expectGet(t, c.table(h.Pid), pid, linked(pid))
		}
	}
}

// Runs that are made by chance, of several processes, each linked with many: whenever no signal is under way each two hold the half-link, or neither does.
func TestP1404ByChance(t *testing.T) {
	r := rand.New(rand.NewSource(1404))
	for range 200 {
		c := &crowd{tables: []*links.Table{links.New(), links.New()}, lanes: ether.New()}
		for range 10 {
			likely := r.Intn(5)
			for range 60 {
				from, to := 1+r.Intn(len(c.tables)), 1+r.Intn(len(c.tables))
				switch n := r.Intn(10); {
				case n < likely:
					c.deliver(t, r)
				case n == 9 && len(c.tables) < 6:
					c.spawnLink(from)
				case from == to:
				case n%2 == 0:
					c.link(t, from, to)
				default:
					c.unlink(t, from, to)
				}
			}
			for c.lanes.All() > 0 {
				c.deliver(t, r)
			}
			c.expectCalm(t)
			if t.Failed() {
				return
			}
		}
	}
}
