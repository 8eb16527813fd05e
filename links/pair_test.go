package links_test

import (
	"fmt"
	"slices"
	"strings"
	"testing"

	"exitwave/api"
	"exitwave/links"
)

// side is one of two processes, with what is under way from it to the other one, the first one first. It traps exits: none ends it.
type side struct {
	pid, other int
	table      *links.Table
	lane       []api.Signal
	ids        int // the identifier that was told last
	ended      bool
	unlinked   bool // from Unlink on, until it links again, or is linked anew (T3)
	acted      int  // how many SExit because of a link acted since its last Link
}

func (s *side) send(x api.Signal) {
	x.From, x.To = s.pid, s.other
	s.lane = append(s.lane, x)
}

func (s *side) link() {
	s.unlinked, s.acted = false, 0
	if s.table.Link(s.other) {
		s.send(api.Signal{Kind: api.SLink})
	}
}

func (s *side) unlink() {
	s.unlinked = true
	if id, is := s.table.Unlink(s.other); is {
		s.ids = id
		s.send(api.Signal{Kind: api.SUnlink, Id: id})
	}
}

func (s *side) end() {
	s.ended = true
	for h, is := s.table.Pop(); is; h, is = s.table.Pop() {
		if h.State == api.Linked {
			s.send(api.Signal{Kind: api.SExit, Link: true})
		}
	}
}

// takeIn is chapter 18's, as far as it is of links; it tells whether an exit acted that must not.
func (s *side) takeIn(x api.Signal) bool {
	switch x.Kind {
	case api.SLink:
		if _, is := s.table.Get(s.other); !is {
			s.unlinked = false
		}
		s.table.OnLink(s.other)
	case api.SUnlink:
		s.table.OnUnlink(s.other)
		s.send(api.Signal{Kind: api.SUnlinkAck, Id: x.Id})
	case api.SUnlinkAck:
		s.table.OnAck(s.other, x.Id)
	case api.SExit:
		if s.table.OnExit(s.other) {
			s.acted++
			return s.unlinked
		}
	}
	return false
}

// answer is what one that has ended does with a signal (P1604).
func (s *side) answer(x api.Signal) {
	switch x.Kind {
	case api.SLink:
		s.send(api.Signal{Kind: api.SExit, Link: true})
	case api.SUnlink:
		s.send(api.Signal{Kind: api.SUnlinkAck, Id: x.Id})
	}
}

// holds tells how the half-link stands: 0, if there is none.
func (s *side) holds() int {
	h, _ := s.table.Get(s.other)
	return h.State
}

// move is what one of two processes does, by its place.
type move struct {
	what string
	who  int
}

// pair is two processes, and what was done. From the first firm link of 1 on (T4) neither unlinks.
type pair struct {
	sides [2]*side
	done  []move
	firm  bool
}

func newPair() *pair {
	return &pair{sides: [2]*side{{pid: 1, other: 2, table: links.New()}, {pid: 2, other: 1, table: links.New()}}}
}

func (p *pair) under() int { return len(p.sides[0].lane) + len(p.sides[1].lane) }

// moves are those that may be done next; none lays a signal above most.
func (p *pair) moves(most int) []move {
	var l []move
	for who, s := range p.sides {
		if len(s.lane) > 0 {
			l = append(l, move{"deliver", who})
		}
		if s.ended || p.under() == most {
			continue
		}
		l = append(l, move{"link", who}, move{"end", who})
		if !p.firm {
			l = append(l, move{"unlink", who})
		}
	}
	first, other := p.sides[0], p.sides[1]
	crossing := slices.ContainsFunc(other.lane, func(x api.Signal) bool { return x.Kind == api.SUnlink })
	if !p.firm && !first.ended && !crossing && p.under() < most {
		l = append(l, move{"firm link", 0})
	}
	return l
}

func (p *pair) do(t *testing.T, m move) {
	t.Helper()
	p.done = append(p.done, m)
	s := p.sides[m.who]
	switch m.what {
	case "link":
		s.link()
	case "firm link":
		p.firm = true
		s.link()
	case "unlink":
		s.unlink()
	case "end":
		s.end()
	case "deliver":
		x := s.lane[0]
		s.lane = slices.Delete(s.lane, 0, 1)
		if to := p.sides[1-m.who]; to.ended {
			to.answer(x)
		} else if to.takeIn(x) {
			t.Fatalf("P1405: an exit acts on one that has unlinked: %v", p.done)
		}
	}
}

// check holds a pair against P1404 and T4, if no signal is under way.
func (p *pair) check(t *testing.T) {
	t.Helper()
	if p.under() > 0 {
		return
	}
	one, two := p.sides[0], p.sides[1]
	if one.holds() != two.holds() || one.holds() == api.Unlinking {
		t.Fatalf("P1404: %v, %v behind %v", one.table.All(), two.table.All(), p.done)
	}
	if (one.ended || two.ended) && one.holds() != 0 {
		t.Fatalf("P1404: a half-link with one that has ended, behind %v", p.done)
	}
	if !p.firm || one.ended {
		return
	}
	if two.ended && one.acted != 1 {
		t.Fatalf("T4: %d exits acted behind %v", one.acted, p.done)
	}
	if !two.ended && one.holds() != api.Linked {
		t.Fatalf("T4: linked no more behind %v", p.done)
	}
}

// key is the same for pairs that can't be told apart from here on: of identifiers it counts alone how far they are behind the last one.
func (p *pair) key() string {
	var b strings.Builder
	fmt.Fprint(&b, p.firm)
	for who, s := range p.sides {
		h, _ := s.table.Get(s.other)
		fmt.Fprint(&b, ";", h.State, s.ended, s.unlinked, min(s.acted, 2))
		if h.State == api.Unlinking {
			fmt.Fprint(&b, " ", s.ids-h.Id)
		}
		for _, x := range s.lane {
			behind := 0
			switch x.Kind {
			case api.SUnlink:
				behind = s.ids - x.Id
			case api.SUnlinkAck:
				behind = p.sides[1-who].ids - x.Id
			}
			fmt.Fprint(&b, " ", x.Kind, "-", behind)
		}
	}
	return b.String()
}

func replayed(t *testing.T, done []move) *pair {
	t.Helper()
	p := newPair()
	for _, m := range done {
		p.do(t, m)
	}
	return p
}

// Two tables, all orders of calls and deliveries, with any number of them: every state that may be reached while few signals are under way.
func TestP1404EveryOrder(t *testing.T) {
	const most = 7
	seen := map[string]struct{}{}
	ahead := []*pair{newPair()}
	for len(ahead) > 0 {
		p := ahead[0]
		ahead = ahead[1:]
		for _, m := range p.moves(most) {
			next := replayed(t, append(slices.Clone(p.done), m))
			next.check(t)
			if _, was := seen[next.key()]; !was {
				seen[next.key()] = struct{}{}
				ahead = append(ahead, next)
			}
		}
	}
	if len(seen) < 30000 {
		t.Errorf("%d states: too few to tell", len(seen))
	}
}
