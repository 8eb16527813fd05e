package bif

import (
	"slices"

	"exitwave/api"
	"exitwave/term"
)

// Builtins that ask of which kind a term is.

func (c call) isOf(kinds ...int) api.Term { return boolean(slices.Contains(kinds, c.l[0].Kind)) }

func (c call) isAtom() api.Term { return c.isOf(api.KAtom) }

func (c call) isInteger() api.Term { return c.isOf(api.KInt) }

func (c call) isFloat() api.Term { return c.isOf(api.KFloat) }

func (c call) isNumber() api.Term { return c.isOf(api.KInt, api.KFloat) }

func (c call) isList() api.Term { return c.isOf(api.KList) }

func (c call) isTuple() api.Term { return c.isOf(api.KTuple) }

func (c call) isPid() api.Term { return c.isOf(api.KPid) }

func (c call) isReference() api.Term { return c.isOf(api.KRef) }

func (c call) isFunction() api.Term { return c.isOf(api.KFun) }

func (c call) isBoolean() api.Term { return boolean(isBoolean(c.l[0])) }

// takes: is_function with two. arity, which is the caller's, is asked of right funs alone.
func (c call) takes() api.Term {
	fun, n := c.l[0], c.l[1]
	must(n.Kind == api.KInt && n.N >= 0, api.ErrBad)
	if fun.Kind != api.KFun {
		return boolean(false)
	}
	mustBe(term.Check(fun))
	return boolean(int64(c.arity(fun)) == n.N)
}
