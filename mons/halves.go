package mons

import (
	"strings"

	"exitwave/api"
	"exitwave/tree"
)

// halves are the origins of a table, or its targets.
type halves struct {
	byRef tree.Tree[api.Mon]
}

// add keeps a copy of the name, since the text handed in may be a small piece of a great one.
func (h *halves) add(m api.Mon) api.Errno {
	if _, there := h.byRef.Get(m.Ref); there {
		return api.ErrArg
	}
	m.Name = strings.Clone(m.Name)
	h.byRef.Put(m.Ref, m)
	return api.OK
}

func (h *halves) remove(ref int) (api.Mon, bool) {
	return h.take(func() (api.Mon, bool) { return h.byRef.Get(ref) })
}

func (h *halves) pop() (api.Mon, bool) {
	return h.take(func() (api.Mon, bool) {
		_, m, there := h.byRef.First()
		return m, there
	})
}

// take takes out the half that find finds; which one that is, find alone knows.
func (h *halves) take(find func() (api.Mon, bool)) (api.Mon, bool) {
	m, there := find()
	if there {
		h.byRef.Drop(m.Ref)
	}
	return m, there
}

func (h *halves) all() []api.Mon {
	told := make([]api.Mon, 0, h.many())
	for _, m := range h.byRef.All() {
		told = append(told, m)
	}
	return told
}

func (h *halves) many() int { return h.byRef.Len() }
