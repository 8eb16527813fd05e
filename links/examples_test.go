package links_test

import (
	"testing"

	"exitwave/links"
)

func TestExample1(t *testing.T) {
	x := links.New()
	expectLink(t, x, 2, true)
	expectLink(t, x, 2, false)
	expectUnlink(t, x, 2, 1)
	expectUnlink(t, x, 2, 0)
	expectLink(t, x, 2, true)
	expectAck(t, x, 2, 1, false)
	expectUnlink(t, x, 2, 2)
	expectAck(t, x, 2, 1, false)
	expectAck(t, x, 2, 2, true)
	expectTable(t, x)
}

func TestExample2(t *testing.T) {
	x := links.New()
	x.OnLink(3)
	expectTable(t, x, linked(3))
	x.OnUnlink(3)
	expectTable(t, x)
	expectUnlink(t, x, 3, 0)
	expectTable(t, x)
}
