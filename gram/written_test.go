package gram_test

import (
	"fmt"
	"math/rand"
	"slices"
	"strings"
	"testing"

	"exitwave/api"
)

// Sources that are made of trees have these trees.
func TestP601Written(t *testing.T) {
	t.Parallel()
	r := rand.New(rand.NewSource(601))
	seen := map[int]int{}
	for i := range 1500 {
		tokens, x := written(r, 1+i/5, 4)
		source, at := joined(tokens, someBlanks(r))
		want := tellAll(laid(x, at))
		expectNodes(t, source, want...)
		for _, n := range laid(x, at) {
			seen[n.Kind]++
		}
	}
	for kind := api.NInt; kind <= api.NModule; kind++ {
		if seen[kind] < 100 {
			t.Errorf("%s stands in the sources %d times alone", kindNames[kind], seen[kind])
		}
	}
}

// Each operator beside each other one: either one tree can be written without brackets, and has that text; or none can, and the second operator may not stand there.
func TestP601Operators(t *testing.T) {
	signs := append(operators(), "=")
	two := func(sign string, l ...*part) *part {
		if sign == "=" {
			return make1(api.NMatch, l...)
		}
		return named(api.NOp, sign, l...)
	}
	leaf := func(s string) *part { return named(api.NAtom, s) }
	for _, first := range signs {
		for _, second := range signs {
			text := fmt.Sprintf("a %s b %s c", first, second)
			found := 0
			for _, x := range []*part{two(second, two(first, leaf("a"), leaf("b")), leaf("c")), two(first, leaf("a"), two(second, leaf("b"), leaf("c")))} {
				w := &writer{}
				w.expr(x, 0)
				if w.brackets == 0 {
					found++
					expectWritten(t, w, x, text)
				}
			}
			if found > 1 {
				t.Fatalf("%s has two trees", text)
			}
			if found == 0 {
				expectFault(t, front+text+".", api.ErrSyntax, len(front)+len("a  b ")+len(first))
			}
		}
		unaryBeside(t, two, first)
	}
}

// unaryBeside: operators with one beside one with two.
func unaryBeside(t *testing.T, two func(string, ...*part) *part, sign string) {
	for _, u := range []string{"-", "not"} {
		w := &writer{}
		x := two(sign, named(api.NOp, u, named(api.NAtom, "a")), named(api.NOp, "not", named(api.NOp, u, named(api.NAtom, "b"))))
		w.expr(x, 0)
		expectWritten(t, w, x, fmt.Sprintf("%s a %s not %s b", u, sign, u))
	}
}

// expectWritten asks that a writer wrote that text, and for the nodes of what it wrote.
func expectWritten(t *testing.T, w *writer, x *part, text string) {
	t.Helper()
	source, at := joined(w.tokens, oneBlank)
	if strings.TrimSpace(source) != text {
		t.Fatalf("%s was written; want %s", source, text)
	}
	for i := range at {
		at[i]--
	}
	expectBody(t, text, tellAll(laid(x, at))...)
}

// A row of operators of one level, however long, is no deeper than a single one.
func TestP601Rows(t *testing.T) {
	const n = 5000
	for _, sign := range operators() {
		level, side := levelOf(sign)
		if level == 0 || side == '-' {
			continue
		}
		text := "a" + strings.Repeat(" "+sign+" a", n)
		nodes := treeOf(t, front+text+".").Nodes
		step := len(sign) + 3
		for i := range min(n, len(nodes)/2-3) {
			k := 3 + 2*i // to the left each operation stands behind its right operand, and begins where all begins
			want := fmt.Sprintf("Op:%s[%d %d]@%d", sign, k-2, k-1, len(front))
			if side == 'r' { // to the right all operands stand first, and each operation begins at its left one
				k = n + 2 + i
				want = fmt.Sprintf("Op:%s[%d %d]@%d", sign, n-i, k-1, len(front)+(n-1-i)*step)
			}
			if got := tell(nodes[k]); got != want {
				t.Fatalf("P601 %s in a row: node %d is %s; want %s", sign, k, got, want)
			}
		}
	}
	for _, sign := range []string{"-", "not"} {
		nodes := treeOf(t, front+strings.Repeat(sign+" ", n)+"a.").Nodes
		for i := range min(n, len(nodes)-2) {
			want := fmt.Sprintf("Op:%s[%d]@%d", sign, i+1, len(front)+(n-1-i)*(len(sign)+1))
			if got := tell(nodes[i+2]); got != want {
				t.Fatalf("P601 %s in a row: node %d is %s; want %s", sign, i+2, got, want)
			}
		}
	}
	nodes := treeOf(t, front+"f"+strings.Repeat("()", n)+".").Nodes
	for i := 2; i <= min(n, len(nodes)-1); i++ {
		if got, want := tell(nodes[i]), fmt.Sprintf("Apply[%d]@%d", i-1, len(front)); got != want {
			t.Fatalf("P601 calls in a row: node %d is %s; want %s", i, got, want)
		}
	}
}

// P602: blanks and comments move nodes, and change nothing else; nor do brackets about expressions.
func TestP602(t *testing.T) {
	t.Parallel()
	r := rand.New(rand.NewSource(602))
	for range 500 {
		tokens, x := written(r, 60, 0)
		plain, _ := joined(tokens, oneBlank)
		want := still(treeOf(t, plain))
		for range 3 {
			wide, _ := joined(tokens, someBlanks(r))
			if got := still(treeOf(t, wide)); !slices.Equal(got, want) {
				t.Errorf("P602 %s: %s; want that of %s: %s", said(wide), said(got), said(plain), said(want))
			}
			w := &writer{r: r, more: 2 + r.Intn(2)}
			w.module(x)
			about, _ := joined(w.tokens, oneBlank)
			if got := still(treeOf(t, about)); !slices.Equal(got, want) {
				t.Errorf("P602 %s: %s; want that of %s: %s", said(about), said(got), said(plain), said(want))
			}
		}
	}
}

// Tokens that need no blank between them need none here.
func TestP602NoBlanks(t *testing.T) {
	r := rand.New(rand.NewSource(6020))
	for range 500 {
		tokens, x := written(r, 40, 5)
		var source strings.Builder
		var at []int
		for i, s := range tokens {
			if i > 0 && !strings.Contains("(){}[],;", tokens[i-1]) && !strings.Contains("(){}[],;", s) {
				source.WriteString(" ")
			}
			at = append(at, source.Len())
			source.WriteString(s)
		}
		expectNodes(t, source.String(), tellAll(laid(x, append(at, source.Len())))...)
	}
}

// still: a tree's nodes without At.
func still(x api.Tree) []string {
	var l []string
	for _, n := range x.Nodes {
		n.At = 0
		l = append(l, tell(n))
	}
	return l
}
