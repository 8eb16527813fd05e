package check

// state is how a variable stands at a place; one that is in no map is neither bound nor unsafe.
type state int

const (
	neither state = iota
	isBound
	isUnsafe
)

// past is how a variable stood ahead of a change.
type past struct {
	name string
	was  state
}

// trace is how a way through a source left a variable that it changed.
type trace struct {
	name string
	now  state
}

// scope keeps how variables stand; its changes are written down, so that a way of several can be taken back for the next one.
type scope struct {
	states  map[string]state
	changes []past
}

func (s *scope) put(name string, now state) {
	was := s.states[name]
	if was == now { // a change that stands twice would count twice where ways are joined
		return
	}
	s.changes = append(s.changes, past{name: name, was: was})
	s.states[name] = now
}

// apart walks a way, and takes back what it changed: it tells it instead. (Behind an error there is nothing to take back: the walk ends there.)
func (s *scope) apart(walk func() error) ([]trace, error) {
	mark := len(s.changes)
	if err := walk(); err != nil {
		return nil, err
	}
	var way []trace
	for _, c := range s.changes[mark:] {
		way = append(way, trace{name: c.name, now: s.states[c.name]})
	}
	for i := len(s.changes) - 1; i >= mark; i-- {
		s.states[s.changes[i].name] = s.changes[i].was
	}
	s.changes = s.changes[:mark]
	return way, nil
}

// again changes what a way changed.
func (s *scope) again(way []trace) {
	for _, x := range way {
		s.put(x.name, x.now)
	}
}

// doubt makes unsafe what ways changed: nobody knows whether they were gone.
func (s *scope) doubt(ways ...[]trace) {
	for _, way := range ways {
		for _, x := range way {
			s.put(x.name, isUnsafe)
		}
	}
}

// join goes on behind ways of which just one was gone.
func (s *scope) join(ways [][]trace) {
	binding := map[string]int{} // how many ways bind a variable
	for _, way := range ways {
		for _, x := range way {
			if x.now == isBound {
				binding[x.name]++
			}
		}
	}
	for _, way := range ways {
		for _, x := range way {
			if binding[x.name] == len(ways) {
				s.put(x.name, isBound)
			} else {
				s.put(x.name, isUnsafe)
			}
		}
	}
}
