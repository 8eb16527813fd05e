package mons_test

import (
	"testing"

	"exitwave/api"
	"exitwave/mons"
)

func TestExample1(t *testing.T) {
	x := mons.New()
	expectWatch(t, x, origin(5, 2, ""), api.OK)
	expectWatch(t, x, origin(5, 3, ""), api.ErrArg)
	expectDown(t, x, 5, origin(5, 2, ""))
	expectDown(t, x, 5, api.Mon{})
	expectDemonitor(t, x, 5, api.Mon{})
	expectWatch(t, x, origin(5, 3, "a"), api.OK)
	b := newBook()
	b.watch(origin(5, 3, "a"))
	expectTable(t, x, b)
}
