package names_test

import (
	"testing"

	"exitwave/api"
	"exitwave/names"
)

func TestExample1(t *testing.T) {
	x := names.New()
	expectRegister(t, x, "a", 1, api.OK)
	expectRegister(t, x, "a", 2, api.ErrBad)
	expectRegister(t, x, "b", 1, api.ErrBad)
	expectRelease(t, x, 1, true)
	expectWhereis(t, x, "a", 0)
}
