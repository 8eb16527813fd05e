package eval_test

import (
	"errors"
	"fmt"
	"math/rand"
	"strings"

	"exitwave/api"
	"exitwave/check"
)

// grower writes sources by chance, of which many are nearly right; left: about how many expressions it may still write.
type grower struct {
	r    *rand.Rand
	left int
}

func (g *grower) one(l ...string) string { return l[g.r.Intn(len(l))] }

func (g *grower) variable() string { return g.one("X", "Y", "Z", "W", "X", "Y") }

// some writes a few things, with a sign between them.
func (g *grower) some(least, most int, sign string, what func() string) string {
	var l []string
	for range least + g.r.Intn(most-least+1) {
		l = append(l, what())
	}
	return strings.Join(l, sign)
}

func (g *grower) pattern() string {
	switch g.r.Intn(14) {
	case 0:
		return "{" + g.some(0, 2, ",", g.pattern) + "}"
	case 1:
		return "[" + g.some(1, 2, ",", g.pattern) + "]"
	case 2:
		return "[" + g.some(1, 2, ",", g.pattern) + "|(" + g.pattern() + ")]"
	case 3:
		return "(" + g.pattern() + ")=(" + g.pattern() + ")"
	case 4, 5:
		return g.one("1", "a", "-1", "1.0", "true", "[]", "2", "0")
	case 6, 7:
		return "_"
	}
	return g.variable()
}

func (g *grower) test() string {
	switch g.r.Intn(6) {
	case 0:
		return "(" + g.test() + ")" + g.one("==", "+", "andalso", " orelse ", "<", "=:=") + "(" + g.test() + ")"
	case 1:
		return g.one("is_list", "is_atom", "is_integer", "is_tuple") + "(" + g.test() + ")"
	case 2, 3:
		return g.variable()
	}
	return g.one("1", "a", "true", "1.0", "true")
}

func (g *grower) tail() string {
	guard := ""
	if g.r.Intn(4) == 0 {
		guard = " when " + g.some(1, 2, ",", g.test)
	}
	return guard + "->" + g.body()
}

func (g *grower) body() string { return g.some(1, 3, ",", g.expr) }

func (g *grower) clause() string { return g.pattern() + g.tail() }

// clauses: the last one takes all, more often than not.
func (g *grower) clauses() string {
	s := g.some(1, 2, ";", g.clause)
	if g.r.Intn(3) > 0 {
		s += ";_->" + g.body()
	}
	return s
}

func (g *grower) caught() string { return g.one("", "error:", "_:", "exit:", "_:") + g.clause() }

func (g *grower) try() string {
	s := "try " + g.body()
	if g.r.Intn(3) == 0 {
		s += " of " + g.clauses()
	}
	kind := g.r.Intn(3)
	if kind != 0 {
		s += " catch " + g.some(1, 2, ";", g.caught)
	}
	if kind != 1 {
		s += " after " + g.body()
	}
	return s + " end"
}

func (g *grower) receive() string {
	switch g.r.Intn(6) {
	case 0:
		return "receive " + g.clauses() + " end"
	case 1:
		return "receive after " + g.one("0", "0", "infinity") + "->" + g.body() + " end"
	}
	return "receive " + g.clauses() + " after 0->" + g.body() + " end"
}

func (g *grower) fun() string {
	n := g.r.Intn(3)
	return "fun" + g.some(1, 2, ";", func() string { return "(" + g.some(n, n, ",", g.pattern) + ")" + g.tail() }) + " end"
}

func (g *grower) call() string {
	switch g.r.Intn(8) {
	case 0:
		return g.one("exit", "throw", "error", "throw") + "(" + g.expr() + ")"
	case 1:
		return g.one("self()", "out("+g.expr()+")", "spawn("+g.expr()+")", "monitor(process,"+g.expr()+")", "(self())!("+g.expr()+")")
	case 2:
		return g.one("length", "hd", "is_list", "abs", "size", "reverse", "tuple_to_list") + "(" + g.expr() + ")"
	case 3:
		return "f()"
	case 4, 5:
		return "h(" + g.expr() + "," + g.expr() + ")"
	}
	return "g(" + g.expr() + ")"
}

func (g *grower) applied() string {
	switch g.r.Intn(4) {
	case 0:
		return g.fun() + "(" + g.some(0, 2, ",", g.expr) + ")"
	case 1:
		return "(fun g/1)(" + g.expr() + ")"
	case 2:
		return "(fun(" + g.pattern() + ")" + g.tail() + " end)(" + g.expr() + ")"
	}
	return "(" + g.expr() + ")(" + g.some(0, 2, ",", g.expr) + ")"
}

func (g *grower) expr() string {
	g.left--
	if g.left < 0 {
		return g.one("1", "a", "true", "fun g/1", "[]", g.variable(), g.variable())
	}
	switch g.r.Intn(22) {
	case 0, 1, 2:
		return g.variable() + "=" + g.expr()
	case 3:
		return "(" + g.pattern() + ")=" + g.expr()
	case 4:
		return "(" + g.expr() + ")" + g.one("+", "==", "++", "-", "*", "<", "div") + "(" + g.expr() + ")"
	case 5:
		return "(" + g.expr() + ")" + g.one("andalso", "orelse") + "(" + g.expr() + ")"
	case 6:
		return "catch " + g.expr()
	case 7, 8:
		return g.one("{", "{1,") + g.expr() + "," + g.expr() + "}"
	case 9:
		return g.one("["+g.expr()+","+g.expr()+"]", "["+g.expr()+"|"+g.expr()+"]", "["+g.expr()+"|[1]]")
	case 10, 11:
		return "case " + g.expr() + " of " + g.clauses() + " end"
	case 12:
		return g.receive()
	case 13, 14:
		return g.try()
	case 15:
		return g.fun()
	case 16, 17:
		return g.call()
	case 18:
		return g.applied()
	case 19:
		return "begin " + g.body() + " end"
	case 20:
		return g.one("-", "not") + "(" + g.expr() + ")"
	}
	return g.one("1", "a", "\"s\"", "2.5", "{}", "true", "false", g.variable())
}

// grown is a right source that is made by chance, with functions f/0, g/1, h/2; false, if its faults could not be mended.
func grown(r *rand.Rand, size int) (string, api.Tree, bool) {
	g := &grower{r: r, left: size}
	s := "-module(m). f()" + g.tail() + ". g(" + g.pattern() + ")" + g.tail() + "; g(X)->X. h(X,Y)" + g.tail() + "; h(" + g.pattern() + "," + g.pattern() + ")" + g.tail() + "."
	for {
		x, err := check.Source(s)
		if err == nil {
			return s, x, true
		}
		var w *check.Wrong
		if !errors.As(err, &w) || w.Fault.Err != api.ErrUnbound && w.Fault.Err != api.ErrUnsafe {
			return fmt.Sprint(s, ": ", err), x, false
		}
		s = s[:w.Fault.At] + "1" + s[w.Fault.At+1:] // names of variables have one byte
	}
}
