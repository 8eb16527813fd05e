package check_test

import (
	"fmt"
	"math/rand"
	"strings"
)

// grower writes sources by chance, of which many are right or nearly so; left: about how many expressions it may still write.
type grower struct {
	r    *rand.Rand
	left int
	odd  int // one in so many patterns, tests, calls is odd
}

func (g *grower) one(l ...string) string { return l[g.r.Intn(len(l))] }

func (g *grower) isOdd() bool { return g.r.Intn(g.odd) == 0 }

func (g *grower) variable() string { return g.one("X", "Y", "Z", "W", "X", "Y") }

// some writes a few things, with commas.
func (g *grower) some(least, most int, what func() string) string {
	var l []string
	for range least + g.r.Intn(most-least+1) {
		l = append(l, what())
	}
	return strings.Join(l, ",")
}

func (g *grower) pattern() string {
	if g.isOdd() {
		return g.expr()
	}
	switch g.r.Intn(12) {
	case 0:
		return "{" + g.some(0, 2, g.pattern) + "}"
	case 1:
		return "[" + g.some(1, 2, g.pattern) + "]"
	case 2:
		return "[" + g.some(1, 2, g.pattern) + "|" + g.inner(g.pattern) + "]"
	case 3:
		return g.inner(g.pattern) + "=" + g.inner(g.pattern)
	case 4:
		return g.one("1", "a", "-1", "-2.5", "\"s\"", "_")
	case 5:
		return "_"
	}
	return g.variable()
}

func (g *grower) inner(what func() string) string { return "(" + what() + ")" }

func (g *grower) test() string {
	if g.isOdd() {
		return g.expr()
	}
	switch g.r.Intn(7) {
	case 0:
		return g.inner(g.test) + g.one("==", "+", "andalso", " orelse ", "<", "-") + g.inner(g.test)
	case 1:
		return g.one("hd", "is_atom", "abs") + g.inner(g.test)
	case 2:
		return g.one("not", "-") + g.inner(g.test)
	case 3:
		return "{" + g.some(0, 2, g.test) + "}"
	case 4:
		return g.variable()
	}
	return g.one("1", "a", "\"!\"", "1.5")
}

func (g *grower) guard() string {
	if g.r.Intn(3) > 0 {
		return ""
	}
	return " when " + g.some(1, 2, g.test)
}

func (g *grower) body() string { return g.some(1, 3, g.expr) }

func (g *grower) tail() string { return g.guard() + "->" + g.body() }

func (g *grower) clause() string { return g.pattern() + g.tail() }

func (g *grower) caught() string {
	return g.one("", "error:", "_:", "throw:") + g.clause()
}

func (g *grower) clauses(least int, what func() string) string {
	return strings.ReplaceAll(g.some(least, 3, func() string { return what() + "\x00" }), "\x00,", ";")
}

// cut takes away what clauses leaves at its end.
func cut(s string) string { return strings.TrimSuffix(s, "\x00") }

func (g *grower) fun() string {
	n := g.r.Intn(3)
	return "fun" + cut(g.clauses(1, func() string {
		if g.isOdd() {
			n = g.r.Intn(3)
		}
		return "(" + g.some(n, n, g.pattern) + ")" + g.tail()
	})) + " end"
}

func (g *grower) try() string {
	s := "try " + g.body()
	if g.r.Intn(2) == 0 {
		s += " of " + cut(g.clauses(1, g.clause))
	}
	kind := g.r.Intn(3)
	if kind != 0 {
		s += " catch " + cut(g.clauses(1, g.caught))
	}
	if kind != 1 {
		s += " after " + g.body()
	}
	return s + " end"
}

func (g *grower) receive() string {
	switch g.r.Intn(4) {
	case 0:
		return "receive " + cut(g.clauses(1, g.clause)) + " end"
	case 1:
		return "receive after " + g.one("0", "infinity") + "->" + g.body() + " end"
	}
	return "receive " + cut(g.clauses(1, g.clause)) + " after " + g.one("0", "infinity") + "->" + g.body() + " end"
}

func (g *grower) call() string {
	if g.isOdd() {
		return g.one("z()", "z(1)", "fun z/1", "fun hd/1", "hd()", "self(1)", "q(1,2,3)")
	}
	if g.r.Intn(4) == 0 {
		return g.one("z(", "q(") + g.expr() + ")"
	}
	return g.one("q(", "min(", "exit(") + g.expr() + "," + g.expr() + ")"
}

func (g *grower) expr() string {
	g.left--
	if g.left < 0 {
		return g.one("1", "a", "fun q/2", "self()", g.variable())
	}
	switch g.r.Intn(20) {
	case 0, 1, 2, 3:
		return g.inner(g.pattern) + "=" + g.expr()
	case 4:
		return g.inner(g.expr) + g.one("+", "==", "!", "++") + g.inner(g.expr)
	case 5:
		return g.inner(g.expr) + g.one("andalso", "orelse") + g.inner(g.expr)
	case 6:
		return "catch " + g.expr()
	case 7:
		return strings.ReplaceAll(strings.ReplaceAll(g.one("{@,#}", "[@,#]", "[@|#]"), "@", g.expr()), "#", g.expr())
	case 8:
		return "case " + g.expr() + " of " + cut(g.clauses(1, g.clause)) + " end"
	case 9:
		return g.receive()
	case 10:
		return g.try()
	case 11:
		return g.fun()
	case 12:
		return g.call()
	case 13:
		return "begin " + g.body() + " end"
	case 14:
		return g.inner(g.expr) + "(" + g.some(0, 2, g.expr) + ")"
	case 15:
		return g.one("-", "not") + g.inner(g.expr)
	case 16, 17:
		return g.variable()
	}
	return g.one("1", "a", "\"s\"", "2.5", "[]", "{}")
}

func (g *grower) function(name string) string {
	n := g.r.Intn(3)
	return cut(g.clauses(1, func() string {
		if g.r.Intn(60) == 0 {
			return name + "(_,_,_,_)" + g.tail()
		}
		return name + "(" + g.some(n, n, g.pattern) + ")" + g.tail()
	})) + "."
}

// grown is a source that is made by chance; q/2 and q/3 are always functions of it.
func grown(r *rand.Rand, size int) string {
	g := &grower{r: r, left: size, odd: 4 + r.Intn(60)}
	s := "-module(m). q(_,_)->1. q(_,_,_)->2."
	for i := range 1 + r.Intn(3) {
		s += g.function(fmt.Sprint("f", i))
	}
	if r.Intn(20) == 0 {
		s += g.one("q(_,_)->3.", "f0()->1.", "q(_)->1.")
	}
	return strings.ReplaceAll(s, "\x00", "")
}
