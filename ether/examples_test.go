package ether_test

import (
	"testing"

	"exitwave/api"
	"exitwave/ether"
)

func TestExample1(t *testing.T) {
	first, other := api.Signal{From: 1, To: 2, Kind: api.SLink}, api.Signal{From: 3, To: 2, Kind: api.SLink}
	second := api.Signal{From: 1, To: 2, Kind: api.SUnlink, Id: 5}
	e := filled(t, first, other, second)
	expectReady(t, e, 2, 1, 3)
	expectTake(t, e, 1, 2, first)
	expectTake(t, e, 1, 2, second)
	expectNone(t, e, 1, 2)
	expectAll(t, e, other)
}

func TestExample2(t *testing.T) {
	if e := ether.Check(api.Signal{From: 1, To: 2, Kind: api.SLink, Id: 1}); e != api.ErrArg {
		t.Errorf("example 2: %v; want arg", e)
	}
	if e := ether.Check(api.Signal{From: 1, To: 2, Kind: api.SMessage}); e != api.ErrTerm {
		t.Errorf("example 2: %v; want term", e)
	}
}
