package sound

import (
	"cmp"
	"iter"

	"exitwave/api"
)

// spot is where a signal is: the place of its lane, and its own in that.
type spot struct{ lane, place int }

// note is a signal that a sequence is made of.
type note struct {
	place  int
	signal api.Signal
}

// under goes over all signals as they are: whoever hands one out copies it.
func under(lanes []api.Lane) iter.Seq2[spot, api.Signal] {
	return func(yield func(spot, api.Signal) bool) {
		for i, lane := range lanes {
			for place, x := range lane.Signals {
				if !yield(spot{i, place}, x) {
					return
				}
			}
		}
	}
}

// areInOrder tells whether lanes and their signals are as Order asks.
func areInOrder(lanes []api.Lane) bool {
	for _, lane := range lanes {
		if len(lane.Signals) == 0 {
			return false
		}
	}
	for at, x := range under(lanes) {
		if lane := lanes[at.lane]; x.From != lane.From || x.To != lane.To {
			return false
		}
	}
	return isRising(lanes, compareEnds)
}

func compareEnds(a, b api.Lane) int {
	return cmp.Or(cmp.Compare(a.From, b.From), cmp.Compare(a.To, b.To))
}

// isRising is false also where two are the same.
func isRising[T any](l []T, compare func(a, b T) int) bool {
	for i := 1; i < len(l); i++ {
		if compare(l[i-1], l[i]) >= 0 {
			return false
		}
	}
	return true
}
