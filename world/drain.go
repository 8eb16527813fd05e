package world

import (
	"cmp"
	"container/heap"

	"exitwave/api"
	"exitwave/vm"
)

// drain delivers until nothing is under way, and tells how many deliveries that were. It asks for the lanes only once, since they are told with all their signals: what comes up later is the answer to a delivery, and goes the same way back.
func drain(v *vm.VM) int {
	many := 0
	for left := underWay(v); left.Len() > 0; many++ {
		w := heap.Pop(left).(way)
		for range deliver(v, w) {
			heap.Push(left, way{w.to, w.from})
		}
	}
	return many
}

// deliver tells how many signals were sent by it.
func deliver(v *vm.VM, w way) int {
	before := v.Under()
	v.Do(api.Step{Kind: api.XDeliver, A: w.from, B: w.to})
	return v.Under() - (before - 1)
}

// underWay has a way for each signal. It is a heap as it stands, since lanes are told in their order.
func underWay(v *vm.VM) *ways {
	var l ways
	for _, lane := range v.Lanes() {
		for range lane.Signals {
			l = append(l, way{lane.From, lane.To})
		}
	}
	return &l
}

// way is from whom a signal comes, and to whom it goes.
type way struct{ from, to int }

// ways is a heap with the first one on top.
type ways []way

func (l ways) Len() int { return len(l) }

func (l ways) Less(i, j int) bool {
	return cmp.Or(cmp.Compare(l[i].from, l[j].from), cmp.Compare(l[i].to, l[j].to)) < 0
}

func (l ways) Swap(i, j int) { l[i], l[j] = l[j], l[i] }

func (l *ways) Push(x any) { *l = append(*l, x.(way)) }

func (l *ways) Pop() any {
	last := len(*l) - 1
	x := (*l)[last]
	*l = (*l)[:last]
	return x
}
