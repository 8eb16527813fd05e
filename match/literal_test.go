package match_test

import (
	"math"
	"strings"
	"testing"

	"exitwave/api"
	"exitwave/term"
)

func expectLiteral(t *testing.T, pattern string, want api.Term) {
	t.Helper()
	x, n := patternOf(t, pattern)
	if got, is := askLiteral(t, x, n); !is || !alike(got, want) {
		t.Errorf("P801 %s: %s, %v; want %s", said(pattern), said(got), is, said(want))
	}
}

func TestP801Numbers(t *testing.T) {
	expectLiteral(t, "0", whole(0))
	expectLiteral(t, "7", whole(7))
	expectLiteral(t, "576460752303423487", whole(api.MaxInt))
	expectLiteral(t, "0.0", float(0))
	expectLiteral(t, "1.0", float(1))
	expectLiteral(t, "0.1", float(0.1))
	expectLiteral(t, "#8000000000000000", float(minus))
	expectLiteral(t, "#7fefffffffffffff", float(math.MaxFloat64))
	expectLiteral(t, "#0000000000000001", float(math.SmallestNonzeroFloat64))
	expectLiteral(t, "(((5)))", whole(5))
}

func TestP801Minus(t *testing.T) {
	expectLiteral(t, "-0", whole(0))
	expectLiteral(t, "-5", whole(-5))
	expectLiteral(t, "-(5)", whole(-5))
	expectLiteral(t, "-576460752303423487", whole(-api.MaxInt))
	expectLiteral(t, "-0.0", float(minus))
	expectLiteral(t, "-#8000000000000000", float(0))
	expectLiteral(t, "-2.5", float(-2.5))
	expectLiteral(t, "-#ffefffffffffffff", float(math.MaxFloat64))
}

// The least number has no negative: no source says it, but a tree can.
func TestP801LeastNumber(t *testing.T) {
	x, n := patternOf(t, "-5")
	x.Nodes[x.Nodes[n].L[0]].N = api.MinInt
	if v, is := askLiteral(t, x, n); is {
		t.Errorf("P801: the negative of the least number is %s", said(v))
	}
	if v, is := askLiteral(t, x, x.Nodes[n].L[0]); !is || !alike(v, whole(api.MinInt)) {
		t.Errorf("P801: the least number is %s, %v", said(v), is)
	}
	for _, v := range kinds() {
		if _, is := askPattern(t, x, n, v, nil); is {
			t.Errorf("P802: the negative of the least number matches %s", said(v))
		}
	}
	x.Nodes[x.Nodes[n].L[0]].N = -api.MaxInt
	if v, is := askLiteral(t, x, n); !is || !alike(v, whole(api.MaxInt)) {
		t.Errorf("P801: %s, %v; want MaxInt", said(v), is)
	}
}

func TestP801Atoms(t *testing.T) {
	expectLiteral(t, "a", atom("a"))
	expectLiteral(t, "'end'", atom("end"))
	expectLiteral(t, "''", atom(""))
	expectLiteral(t, `'\xff\x00_'`, atom("\xff\x00_"))
	expectLiteral(t, "'X'", atom("X"))
	expectLiteral(t, "'_'", atom("_"))
	expectLiteral(t, "'"+strings.Repeat("z", api.MaxAtom)+"'", atom(strings.Repeat("z", api.MaxAtom)))
}

func TestP801Strings(t *testing.T) {
	expectLiteral(t, `""`, list())
	expectLiteral(t, `"a"`, list(whole(97)))
	expectLiteral(t, `"ab\n\x00\xff\""`, list(whole(97), whole(98), whole(10), whole(0), whole(255), whole(34)))
	expectLiteral(t, `"é"`, list(whole(0xc3), whole(0xa9)))
	all := ""
	for b := range 256 {
		all += `\x` + string("0123456789abcdef"[b/16]) + string("0123456789abcdef"[b%16])
	}
	var want []api.Term
	for b := range 256 {
		want = append(want, whole(int64(b)))
	}
	expectLiteral(t, `"`+all+`"`, list(want...))
}

// A string of more than half of MaxWords bytes is told, but it is no right term: it matches nothing, and raises.
func TestP801LongStrings(t *testing.T) {
	for _, n := range []int{api.MaxWords/2 - 1, api.MaxWords / 2, api.MaxWords/2 + 1, 60000} {
		s := `"` + strings.Repeat("a", n) + `"`
		same := list(times(n, whole('a'))...)
		expectLiteral(t, s, same)
		fits := n <= api.MaxWords/2
		if got := term.Check(same) == api.OK; got != fits {
			t.Fatalf("W2: a list of %d is right: %v", n, got)
		}
		if fits {
			expectPattern(t, s, same, nil, "")
			expectGuard(t, "length("+s+") =:= X", env{"X": whole(int64(n))}, true)
			continue
		}
		expectPattern(t, s, list(times(api.MaxWords/2, whole('a'))...), nil, "no")
		expectRaise(t, s, nil)
		expectRaise(t, "is_list("+s+")", nil)
		expectRaise(t, "hd("+s+")", nil)
	}
}

// Of all nodes of a tree that has all kinds of them, those are literals that the promise names.
func TestP801Others(t *testing.T) {
	x := treeOf(t, full)
	count := 0
	for n, node := range x.Nodes {
		want := false
		switch node.Kind {
		case api.NInt, api.NFloat, api.NAtom, api.NString:
			want = true
		case api.NOp:
			part := x.Nodes[node.L[0]].Kind
			want = node.S == "-" && len(node.L) == 1 && (part == api.NInt || part == api.NFloat)
		}
		v, is := askLiteral(t, x, n)
		if is != want {
			t.Errorf("P801 node %d %v: %v, %v", n, node, v, is)
		}
		if is && term.Check(v) != api.OK {
			t.Errorf("P801 node %d: %v is not right", n, v)
		}
		if is && node.Kind == api.NOp {
			count++
		}
	}
	if count != 3 {
		t.Errorf("%d numbers with a minus; want 3", count)
	}
}

// full is a source that has all kinds of nodes, and the operators that are nearly literals.
const full = `f(X, -1, -2.5) when not X, - - 1 < 2 - 1, -X == -"s", -a -> {1, 2.5, a, "s"}, [X | not 1], Y = [2], catch f(X, 1, 2)(1), fun(1) -> 2 end, fun f/3, case X of 1 -> 2 end, try X of 3 -> 4 catch 5 -> 6 after 7 end, receive 1 -> 2 after 0 -> begin 3 end end.`
