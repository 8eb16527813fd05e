package bif

import (
	"exitwave/api"
	"exitwave/term"
)

// call is what a builtin or an operator goes by. There are as many of l as its row of the table says.
type call struct {
	name  string
	l     []api.Term
	arity func(fun api.Term) int
}

// raised is what a builtin panics with that tells no term, so that no other panic passes for an error of the program that calls it.
type raised api.Errno

// answer tells what a builtin tells, as the caller's own. (Of right terms a builtin makes one that is not right only where that is above a limit; a term that was handed in wrong may have no end, and so no copy.)
func (c call) answer(tell func(call) api.Term) (x api.Term, e api.Errno) {
	defer func() {
		switch r := recover().(type) {
		case nil:
		case raised:
			x, e = api.Term{}, api.Errno(r)
		default:
			panic(r)
		}
	}()
	x = tell(c)
	mustBe(term.Check(x))
	return term.Copy(x), api.OK
}

// must raises e, if it is not so.
func must(is bool, e api.Errno) {
	if !is {
		panic(raised(e))
	}
}

// mustBe raises what package term says of terms that are not right: to a program one that may not be is a bad argument.
func mustBe(e api.Errno) {
	must(e != api.ErrTerm, api.ErrBad)
	must(e == api.OK, e)
}

// told: what package num told; its errors are those of programs.
func told(x api.Term, e api.Errno) api.Term {
	must(e == api.OK, e)
	return x
}

// elements tells those of an argument that must be of a kind.
func (c call) elements(i, kind int) []api.Term {
	must(c.l[i].Kind == kind, api.ErrBad)
	return c.l[i].L
}

// place tells which of l the first argument names, from 1 on.
func (c call) place(l []api.Term) int {
	n := c.l[0]
	must(n.Kind == api.KInt && n.N >= 1 && n.N <= int64(len(l)), api.ErrBad)
	return int(n.N - 1)
}

// compare tells how two arguments stand in the order.
func (c call) compare() int {
	n, e := term.Cmp(c.l[0], c.l[1])
	mustBe(e)
	return n
}

func words(x api.Term) int {
	n, e := term.Words(x)
	mustBe(e)
	return n
}

func same(a, b api.Term) bool {
	is, e := term.Same(a, b)
	mustBe(e)
	return is
}

func list(l []api.Term) api.Term { return api.Term{Kind: api.KList, L: l} }

func tuple(l []api.Term) api.Term { return api.Term{Kind: api.KTuple, L: l} }

func number(n int) api.Term { return api.Term{Kind: api.KInt, N: int64(n)} }

func boolean(is bool) api.Term {
	if is {
		return term.Atom("true")
	}
	return term.Atom("false")
}

func isBoolean(x api.Term) bool {
	return x.Kind == api.KAtom && (x.S == "true" || x.S == "false")
}
