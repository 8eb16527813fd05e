package world

import (
	"sync"

	"exitwave/api"
)

// Farm plays a script over sources, by so many goroutines.
func Farm(crew int, sources []string, c api.Config, l []api.Step) ([]api.State, api.Errno) {
	if !within(crew, 1, api.MaxCrew) {
		return nil, api.ErrArg
	}
	seeds, crops := make(chan seed), make(chan crop)
	var hands sync.WaitGroup
	for range crew {
		hands.Add(1)
		go func() {
			defer hands.Done()
			for s := range seeds {
				crops <- s.grow(c, l)
			}
		}()
	}
	told := harvest(sources, seeds, crops)
	close(seeds)
	hands.Wait()
	return told, api.OK
}

// seed is a source that a goroutine is to play, crop what became of it; both have its place, since they come back in any order.
type seed struct {
	place  int
	source string
}

type crop struct {
	place int
	state api.State
}

// grow tells a state without anything where Run tells an error.
func (s seed) grow(c api.Config, l []api.Step) crop {
	state, _ := Run(s.source, c, l)
	return crop{s.place, state}
}

// harvest hands each source to whoever is free, and hears what comes back meanwhile: so none waits for another one for ever.
func harvest(sources []string, seeds chan<- seed, crops <-chan crop) []api.State {
	told := make([]api.State, len(sources))
	next := 0
	for heard := 0; heard < len(sources); {
		ready, s := seeds, seed{}
		if next < len(sources) {
			s = seed{next, sources[next]}
		} else {
			ready = nil // nothing is sent to no channel, so what comes back is heard alone
		}
		select {
		case ready <- s:
			next++
		case x := <-crops:
			told[x.place] = x.state
			heard++
		}
	}
	return told
}
