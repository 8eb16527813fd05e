package gram_test

import (
	"math/rand"
	"strings"

	"exitwave/api"
)

var keptWords = strings.Fields("after andalso begin case catch div end fun not of orelse receive rem try when")

// grower makes parts by chance; left: about how many it may still make; deep: within how many others it makes one.
type grower struct {
	r          *rand.Rand
	left, deep int
}

func (g *grower) one(l ...string) string { return l[g.r.Intn(len(l))] }

func (g *grower) atom() string {
	return g.one("a", "b", "f", "ok", "error", "module", "infinity", "end", "(", "A b", "")
}

func (g *grower) leaf() *part {
	switch g.r.Intn(7) {
	case 0:
		return &part{kind: api.NInt, n: []int64{0, 1, 16, 17, api.MaxInt}[g.r.Intn(5)]}
	case 1:
		return &part{kind: api.NFloat, f: []float64{0, 1.5, -2}[g.r.Intn(3)]}
	case 2:
		return named(api.NAtom, g.atom())
	case 3:
		return named(api.NString, g.one("", "a", "end"))
	case 4:
		return &part{kind: api.NFunName, s: g.atom(), n: int64(g.r.Intn(api.MaxArity + 1))}
	}
	return named(api.NVar, g.one("X", "Y", "_", "_x"))
}

func (g *grower) exprs(least, most int) []*part {
	var l []*part
	for range least + g.r.Intn(most-least+1) {
		l = append(l, g.expr())
	}
	return l
}

func (g *grower) expr() *part {
	g.left--
	if g.left < 0 || g.deep > 20 { // far from the bound, with brackets that a writer may put about each
		return g.leaf()
	}
	g.deep++
	x := g.branch()
	g.deep--
	return x
}

func (g *grower) branch() *part {
	switch g.r.Intn(16) {
	case 0, 1, 2:
		return g.leaf()
	case 3:
		return make1(api.NMatch, g.exprs(2, 2)...)
	case 4:
		return make1(api.NCatch, g.expr())
	case 5, 6, 7:
		return named(api.NOp, g.one(operators()...), g.exprs(2, 2)...)
	case 8:
		return named(api.NOp, g.one("-", "not"), g.expr())
	case 9:
		return named(api.NCall, g.atom(), g.exprs(0, 3)...)
	case 10:
		return make1(api.NApply, g.exprs(1, 3)...)
	case 11:
		return make1([]int{api.NTuple, api.NList}[g.r.Intn(2)], g.exprs(0, 3)...)
	case 12:
		return make1(api.NCons, g.exprs(2, 4)...)
	case 13:
		return make1(api.NBody, g.exprs(1, 3)...)
	}
	return g.worded()
}

func (g *grower) worded() *part {
	switch g.r.Intn(4) {
	case 0:
		return make1(api.NCase, g.expr(), g.clauses(1, 'c'))
	case 1:
		return make1(api.NFun, g.clauses(1, 'g'))
	case 2:
		return g.try()
	}
	n := g.r.Intn(3)
	least := 0
	if n == 0 {
		least = 1
	}
	clauses := g.clauses(least, 'c')
	body := make1(api.NBody)
	if n > 0 {
		body = g.body()
	}
	return &part{kind: api.NReceive, n: int64(n), l: []*part{clauses, body}}
}

func (g *grower) try() *part {
	n := g.r.Intn(2)
	x := &part{kind: api.NTry, n: int64(n), l: []*part{g.body(), g.clauses(0, 'c'), g.clauses(1-n, 'k'), make1(api.NBody)}}
	if n > 0 {
		x.l[3] = g.body()
	}
	return x
}

func (g *grower) body() *part { return make1(api.NBody, g.exprs(1, 2)...) }

func (g *grower) clauses(least int, kind byte) *part {
	x := make1(api.NClauses)
	for range least + g.r.Intn(3) {
		x.l = append(x.l, g.clause(kind))
	}
	return x
}

func (g *grower) clause(kind byte) *part {
	x := make1(api.NClause)
	switch kind {
	case 'f':
		x.s = g.atom()
		x.l = g.exprs(0, 3)
	case 'g':
		x.l = g.exprs(0, 3)
	case 'k':
		x.l = []*part{g.class(), g.expr()}
	default:
		x.l = g.exprs(1, 1)
	}
	x.n = int64(len(x.l))
	x.l = append(x.l, make1(api.NGuard, g.exprs(0, 2)...), g.body())
	return x
}

func (g *grower) class() *part {
	switch g.r.Intn(3) {
	case 0:
		return named(api.NVar, "_")
	case 1:
		return named(api.NAtom, g.one("error", "exit", "throw"))
	}
	return &part{kind: api.NAtom, s: "throw", quiet: true}
}

func (g *grower) module() *part {
	x := named(api.NModule, g.atom())
	for range g.r.Intn(4) {
		clauses := g.clauses(1, 'f')
		first := clauses.l[0]
		x.l = append(x.l, &part{kind: api.NFunc, s: first.s, n: first.n, l: []*part{clauses}})
	}
	return x
}

// written is a source that is made by chance: its tokens as texts, and what it is made of.
func written(r *rand.Rand, size, more int) ([]string, *part) {
	g := &grower{r: r, left: r.Intn(size)}
	x := g.module()
	w := &writer{r: r, more: more}
	w.module(x)
	return w.tokens, x
}
