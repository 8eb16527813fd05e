package gram_test

import (
	"fmt"
	"math"
	"math/rand"
	"slices"
	"strings"

	"exitwave/api"
)

// part is a node with those that it has; a writer writes it as tokens, and knows by that where it begins.
type part struct {
	kind  int
	s     string
	n     int64
	f     float64
	l     []*part
	first int  // the place of its first token
	quiet bool // a class that is not told
}

func make1(kind int, l ...*part) *part { return &part{kind: kind, l: l} }

func named(kind int, s string, l ...*part) *part { return &part{kind: kind, s: s, l: l} }

// tight: how closely each binds: the number of the rule of the grammar that it is made by, from expr (0) to primary (9).
func (x *part) tight() int {
	switch x.kind {
	case api.NMatch, api.NCatch:
		return 0
	case api.NApply, api.NCall:
		return 8
	case api.NOp:
		if len(x.l) == 1 {
			return 7
		}
		level, _ := levelOf(x.s)
		return level
	}
	return 9
}

// levels: the operators with two, by how closely they bind, and which of two in a row has its operands first: l, r, or - for none.
const levels = "r! | rorelse | randalso | -== -/= -=< -< ->= -> -=:= -=/= | r++ | l+ l- | l* l/ ldiv lrem"

func levelOf(sign string) (int, byte) {
	for i, level := range strings.Split(levels, " | ") {
		for _, x := range strings.Fields(level) {
			if x[1:] == sign {
				return i, x[0]
			}
		}
	}
	panic("no operator: " + sign)
}

func operators() []string {
	var l []string
	for _, x := range strings.Fields(strings.ReplaceAll(levels, " | ", " ")) {
		l = append(l, x[1:])
	}
	return l
}

// writer writes parts as tokens; more: one in so many expressions gets brackets that it does not need.
type writer struct {
	tokens   []string
	r        *rand.Rand
	more     int
	brackets int // how many were needed
}

func (w *writer) put(tokens ...string) { w.tokens = append(w.tokens, tokens...) }

// expr writes an expression where one that binds as closely as that, or closer, may stand.
func (w *writer) expr(x *part, tight int) {
	need := x.tight() < tight
	if need {
		w.brackets++
	}
	if need || w.more > 0 && w.r.Intn(w.more) == 0 {
		w.put("(")
		w.expr(x, 0)
		w.put(")")
		return
	}
	x.first = len(w.tokens)
	switch x.kind {
	case api.NMatch:
		w.two(x, "=", 0, 'r')
	case api.NCatch:
		w.put("catch")
		w.expr(x.l[0], 0)
	case api.NOp:
		w.operation(x)
	case api.NCall:
		w.put(quoted(x.s))
		w.listed("(", x.l, ")")
	case api.NApply:
		w.called(x.l[0])
		w.listed("(", x.l[1:], ")")
	default:
		w.primary(x)
	}
}

func (w *writer) operation(x *part) {
	if len(x.l) == 1 {
		w.put(x.s)
		w.expr(x.l[0], 7)
		return
	}
	level, side := levelOf(x.s)
	w.two(x, x.s, level, side)
}

// two writes two operands, with a sign between; the one on the side that has its operands first may be of the same level.
func (w *writer) two(x *part, sign string, level int, side byte) {
	left, right := level+1, level+1
	switch side {
	case 'l':
		left = level
	case 'r':
		right = level
	}
	w.expr(x.l[0], left)
	w.put(sign)
	w.expr(x.l[1], right)
}

// called writes what is called: an atom needs brackets, so as to be no name.
func (w *writer) called(x *part) {
	if x.kind != api.NAtom {
		w.expr(x, 8)
		return
	}
	w.put("(")
	w.expr(x, 0)
	w.put(")")
}

// listed writes expressions between two signs, with commas.
func (w *writer) listed(begin string, l []*part, end string) {
	w.put(begin)
	for i, x := range l {
		if i > 0 {
			w.put(",")
		}
		w.expr(x, 0)
	}
	w.put(end)
}

func (w *writer) primary(x *part) {
	switch x.kind {
	case api.NInt:
		w.put(fmt.Sprint(x.n))
	case api.NFloat:
		w.put(fmt.Sprintf("#%016x", math.Float64bits(x.f)))
	case api.NAtom:
		w.put(quoted(x.s))
	case api.NVar:
		w.put(x.s)
	case api.NString:
		w.put(fmt.Sprintf("%q", x.s))
	case api.NTuple:
		w.listed("{", x.l, "}")
	case api.NList:
		w.listed("[", x.l, "]")
	case api.NCons:
		n := len(x.l) - 1
		w.listed("[", x.l[:n], "|")
		w.expr(x.l[n], 0)
		w.put("]")
	case api.NBody:
		w.listed("begin", x.l, "end")
	default:
		w.worded(x)
	}
}

func (w *writer) worded(x *part) {
	switch x.kind {
	case api.NCase:
		w.put("case")
		w.expr(x.l[0], 0)
		w.clauses("of", x.l[1], 'c')
	case api.NFunName:
		w.put("fun", quoted(x.s), "/", fmt.Sprint(x.n))
		return
	case api.NFun:
		w.clauses("fun", x.l[0], 'g')
	case api.NTry:
		w.group("try", x.l[0])
		w.clauses("of", x.l[1], 'c')
		w.clauses("catch", x.l[2], 'k')
		w.group("after", x.l[3])
	case api.NReceive:
		w.put("receive")
		w.clauses("", x.l[0], 'c')
		w.group([]string{"", "after 0 ->", "after infinity ->"}[x.n], x.l[1])
	}
	w.put("end")
}

// group writes a guard or a body, with words ahead of it, if it has any.
func (w *writer) group(words string, x *part) {
	if len(x.l) > 0 {
		w.put(strings.Fields(words)...)
	}
	x.first = len(w.tokens)
	for i, y := range x.l {
		if i > 0 {
			w.put(",")
		}
		w.expr(y, 0)
	}
}

// clauses: those of a function (f), a fun (g), a catch (k), or others (c).
func (w *writer) clauses(words string, x *part, kind byte) {
	if len(x.l) > 0 {
		w.put(strings.Fields(words)...)
	}
	x.first = len(w.tokens)
	for i, y := range x.l {
		if i > 0 {
			w.put(";")
		}
		w.clause(y, kind)
	}
}

func (w *writer) clause(x *part, kind byte) {
	x.first = len(w.tokens)
	n := len(x.l) - 2
	switch kind {
	case 'f':
		w.put(quoted(x.s))
		w.listed("(", x.l[:n], ")")
	case 'g':
		w.listed("(", x.l[:n], ")")
	case 'k':
		w.class(x.l[0])
		w.expr(x.l[1], 0)
	default:
		w.expr(x.l[0], 0)
	}
	w.group("when", x.l[n])
	w.put("->")
	w.group("", x.l[n+1])
}

func (w *writer) class(x *part) {
	x.first = len(w.tokens)
	if x.quiet {
		return
	}
	w.put(quoted(x.s), ":")
	if x.kind == api.NVar {
		w.tokens[x.first] = x.s
	}
}

func (w *writer) module(x *part) {
	x.first = len(w.tokens)
	w.put("-", "module", "(", quoted(x.s), ")", ".")
	for _, f := range x.l {
		f.first = len(w.tokens)
		w.clauses("", f.l[0], 'f')
		w.put(".")
	}
}

// quoted writes an atom in quotation marks, if its text asks for them.
func quoted(s string) string {
	if s == "" || s[0] < 'a' || s[0] > 'z' || strings.ContainsAny(s, " (") || slices.Contains(keptWords, s) {
		return "'" + s + "'"
	}
	return s
}

// joined puts tokens into a source, with blanks between that gap tells; and tells where each begins, and where the source ends.
func joined(tokens []string, gap func() string) (string, []int) {
	var source strings.Builder
	var at []int
	for _, x := range tokens {
		source.WriteString(gap())
		at = append(at, source.Len())
		source.WriteString(x)
	}
	source.WriteString(gap())
	return source.String(), append(at, source.Len())
}

func oneBlank() string { return " " }

// someBlanks are those that may stand between tokens, each at least one.
func someBlanks(r *rand.Rand) func() string {
	return func() string {
		return strings.Repeat([]string{" ", "\n", "\t", "\r", " %.end(\n", "\n%\xff''\n\n"}[r.Intn(6)], 1+r.Intn(2))
	}
}

// laid: the nodes of a part, each behind all those that it has.
func laid(x *part, at []int) []api.Node {
	var nodes []api.Node
	var lay func(*part) int
	lay = func(x *part) int {
		n := api.Node{Kind: x.kind, S: x.s, N: x.n, F: x.f, At: at[x.first]}
		for _, y := range x.l {
			n.L = append(n.L, lay(y))
		}
		nodes = append(nodes, n)
		return len(nodes) - 1
	}
	lay(x)
	return nodes
}
