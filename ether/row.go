package ether

// Row is a queue. Its zero value is one without items, too.
type Row[T any] struct {
	items []T // those that were popped and not yet dropped stand first
	gone  int // how many these are
}

func NewRow[T any]() *Row[T] { return &Row[T]{} }

func (r *Row[T]) Push(x T) { r.items = append(r.items, x) }

// Pop moves the others to new memory only when more were popped than are left: so a long row costs no more for each item than a short one, and yet keeps no room that it had need of once.
func (r *Row[T]) Pop() (x T, there bool) {
	if r.Len() == 0 {
		return x, false
	}
	var none T
	x, r.items[r.gone] = r.items[r.gone], none // what was popped is not kept
	r.gone++
	if r.gone > r.Len() {
		r.items, r.gone = r.All(), 0
	}
	return x, true
}

func (r *Row[T]) Len() int { return len(r.items) - r.gone }

func (r *Row[T]) All() []T { return append([]T(nil), r.items[r.gone:]...) }

// first is what the next Pop takes; there must be one.
func (r *Row[T]) first() T { return r.items[r.gone] }
