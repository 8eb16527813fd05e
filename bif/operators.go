package bif

import (
	"slices"

	"exitwave/api"
	"exitwave/num"
)

func (c call) arithmetic() api.Term { return told(num.Op(c.name, c.l[0], c.l[1])) }

func (c call) negative() api.Term { return told(num.Neg(c.l[0])) }

func (c call) equal() api.Term { return boolean(c.compare() == 0) }

func (c call) unequal() api.Term { return boolean(c.compare() != 0) }

func (c call) notAbove() api.Term { return boolean(c.compare() <= 0) }

func (c call) below() api.Term { return boolean(c.compare() < 0) }

func (c call) notBelow() api.Term { return boolean(c.compare() >= 0) }

func (c call) above() api.Term { return boolean(c.compare() > 0) }

func (c call) identical() api.Term { return boolean(same(c.l[0], c.l[1])) }

func (c call) different() api.Term { return boolean(!same(c.l[0], c.l[1])) }

func (c call) joined() api.Term {
	return list(slices.Concat(c.elements(0, api.KList), c.elements(1, api.KList)))
}

func (c call) opposite() api.Term {
	must(isBoolean(c.l[0]), api.ErrBad)
	return boolean(c.l[0].S == "false")
}
