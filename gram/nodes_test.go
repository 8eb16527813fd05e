package gram_test

import (
	"strings"
	"testing"
)

// Each row of the table, with and without what may be there.

func TestP601Module(t *testing.T) {
	expectNodes(t, "-module(m).", "Module:m@0")
	expectNodes(t, " - 'module' ( 'a b' ) . % none", "Module:a b@1")
	expectNodes(t, "-module('').", "Module@0")
	expectNodes(t, "-module(module).", "Module:module@0")
	expectNodes(t, "-module(m). f() -> a. g() -> b.",
		"Guard@16", "Atom:a@19", "Body[1]@19", "Clause:f[0 2]@12", "Clauses[3]@12", "Func:f[4]@12",
		"Guard@26", "Atom:b@29", "Body[7]@29", "Clause:g[6 8]@22", "Clauses[9]@22", "Func:g[10]@22", "Module:m[5 11]@0")
}

func TestP601Functions(t *testing.T) {
	expectNodes(t, "-module(m). f(X, 1) -> a; g() when b, c -> d, e.",
		"Var:X@14", "Int#1@17", "Guard@20", "Atom:a@23", "Body[3]@23", "Clause:f#2[0 1 2 4]@12",
		"Atom:b@35", "Atom:c@38", "Guard[6 7]@35", "Atom:d@43", "Atom:e@46", "Body[9 10]@43", "Clause:g[8 11]@26",
		"Clauses[5 12]@12", "Func:f#2[13]@12", "Module:m[14]@0")
	expectNodes(t, "-module(m). 'f g'() -> a; f() -> a; f() -> a.",
		"Guard@20", "Atom:a@23", "Body[1]@23", "Clause:f g[0 2]@12", "Guard@30", "Atom:a@33", "Body[5]@33", "Clause:f[4 6]@26",
		"Guard@40", "Atom:a@43", "Body[9]@43", "Clause:f[8 10]@36", "Clauses[3 7 11]@12", "Func:f g[12]@12", "Module:m[13]@0")
	expectNodes(t, "-module(m). f((X)) when (X) -> (X).",
		"Var:X@15", "Var:X@25", "Guard[1]@24", "Var:X@32", "Body[3]@31", "Clause:f#1[0 2 4]@12", "Clauses[5]@12", "Func:f#1[6]@12", "Module:m[7]@0")
}

func TestP601Leaves(t *testing.T) {
	expectBody(t, "0", "Int@0")
	expectBody(t, "576460752303423487", "Int#576460752303423487@0")
	expectBody(t, "1.5", "Float~3ff8000000000000@0")
	expectBody(t, "0.0", "Float@0")
	expectBody(t, "#8000000000000000", "Float~8000000000000000@0")
	expectBody(t, "a", "Atom:a@0")
	expectBody(t, "'end'", "Atom:end@0")
	expectBody(t, "'('", "Atom:(@0")
	expectBody(t, "''", "Atom@0")
	expectBody(t, "'"+strings.Repeat("a", 64)+"'", "Atom:"+strings.Repeat("a", 64)+"@0")
	expectBody(t, "X", "Var:X@0")
	expectBody(t, "_", "Var:_@0")
	expectBody(t, "_a@B9", "Var:_a@B9@0")
	expectBody(t, `"ab"`, "String:ab@0")
	expectBody(t, `""`, "String@0")
	expectBody(t, `"\xff\n"`, "String:\xff\n@0")
}

func TestP601Brackets(t *testing.T) {
	expectBody(t, "(a)", "Atom:a@1")
	expectBody(t, "((( a )))", "Atom:a@4")
	expectBody(t, "(a = b)", "Atom:a@1", "Atom:b@5", "Match[0 1]@1")
	expectBody(t, "(a) = b", "Atom:a@1", "Atom:b@6", "Match[0 1]@0")
	expectBody(t, "(a) ! b", "Atom:a@1", "Atom:b@6", "Op:![0 1]@0")
	expectBody(t, "(a) == b", "Atom:a@1", "Atom:b@7", "Op:==[0 1]@0")
	expectBody(t, "(a) ++ b", "Atom:a@1", "Atom:b@7", "Op:++[0 1]@0")
	expectBody(t, "(a) + (b) * c", "Atom:a@1", "Atom:b@7", "Atom:c@12", "Op:*[1 2]@6", "Op:+[0 3]@0")
	expectBody(t, "(a) orelse (b) andalso c", "Atom:a@1", "Atom:b@12", "Atom:c@23", "Op:andalso[1 2]@11", "Op:orelse[0 3]@0")
	expectBody(t, "- (- a)", "Atom:a@5", "Op:-[0]@3", "Op:-[1]@0")
	expectBody(t, "(catch a) + 1", "Atom:a@7", "Catch[0]@1", "Int#1@12", "Op:+[1 2]@0")
}

func TestP601Tuples(t *testing.T) {
	expectBody(t, "{}", "Tuple@0")
	expectBody(t, "{a}", "Atom:a@1", "Tuple[0]@0")
	expectBody(t, "{a, {}, B}", "Atom:a@1", "Tuple@4", "Var:B@8", "Tuple[0 1 2]@0")
	expectBody(t, "{a = b, catch c}", "Atom:a@1", "Atom:b@5", "Match[0 1]@1", "Atom:c@14", "Catch[3]@8", "Tuple[2 4]@0")
}

func TestP601Lists(t *testing.T) {
	expectBody(t, "[]", "List@0")
	expectBody(t, "[a]", "Atom:a@1", "List[0]@0")
	expectBody(t, "[a, []]", "Atom:a@1", "List@4", "List[0 1]@0")
	expectBody(t, "[a | b]", "Atom:a@1", "Atom:b@5", "Cons[0 1]@0")
	expectBody(t, "[a, b | c]", "Atom:a@1", "Atom:b@4", "Atom:c@8", "Cons[0 1 2]@0")
	expectBody(t, "[a | [b | []]]", "Atom:a@1", "Atom:b@6", "List@10", "Cons[1 2]@5", "Cons[0 3]@0")
	expectBody(t, "[a | b = c]", "Atom:a@1", "Atom:b@5", "Atom:c@9", "Match[1 2]@5", "Cons[0 3]@0")
}

func TestP601Exprs(t *testing.T) {
	expectBody(t, "a = b = c", "Atom:a@0", "Atom:b@4", "Atom:c@8", "Match[1 2]@4", "Match[0 3]@0")
	expectBody(t, "a ! b = c", "Atom:a@0", "Atom:b@4", "Atom:c@8", "Match[1 2]@4", "Op:![0 3]@0")
	expectBody(t, "a = b ! c", "Atom:a@0", "Atom:b@4", "Atom:c@8", "Op:![1 2]@4", "Match[0 3]@0")
	expectBody(t, "a ! b ! c", "Atom:a@0", "Atom:b@4", "Atom:c@8", "Op:![1 2]@4", "Op:![0 3]@0")
	expectBody(t, "catch a", "Atom:a@6", "Catch[0]@0")
	expectBody(t, "catch catch a", "Atom:a@12", "Catch[0]@6", "Catch[1]@0")
	expectBody(t, "catch a = b", "Atom:a@6", "Atom:b@10", "Match[0 1]@6", "Catch[2]@0")
	expectBody(t, "a = catch b", "Atom:a@0", "Atom:b@10", "Catch[1]@4", "Match[0 2]@0")
	expectBody(t, "begin a end", "Atom:a@6", "Body[0]@0")
	expectBody(t, "begin a, (b), begin c end end", "Atom:a@6", "Atom:b@10", "Atom:c@20", "Body[2]@14", "Body[0 1 3]@0")
}

func TestP601Calls(t *testing.T) {
	expectBody(t, "g()", "Call:g@0")
	expectBody(t, "'g h' (1)", "Int#1@7", "Call:g h[0]@0")
	expectBody(t, "''()", "Call@0")
	expectBody(t, "g(a, h(b))", "Atom:a@2", "Atom:b@7", "Call:h[1]@5", "Call:g[0 2]@0")
	expectBody(t, "(g)()", "Atom:g@1", "Apply[0]@0")
	expectBody(t, "((g))(1)", "Atom:g@2", "Int#1@6", "Apply[0 1]@0")
	expectBody(t, "(g())()", "Call:g@1", "Apply[0]@0")
	expectBody(t, "(g()())()", "Call:g@1", "Apply[0]@1", "Apply[1]@0")
	expectBody(t, "G(a)", "Var:G@0", "Atom:a@2", "Apply[0 1]@0")
	expectBody(t, "G()()(a, b)", "Var:G@0", "Apply[0]@0", "Apply[1]@0", "Atom:a@6", "Atom:b@9", "Apply[2 3 4]@0")
	expectBody(t, "1(2)", "Int#1@0", "Int#2@2", "Apply[0 1]@0")
	expectBody(t, `"a"()`, "String:a@0", "Apply[0]@0")
	expectBody(t, "{}()", "Tuple@0", "Apply[0]@0")
	expectBody(t, "[]()", "List@0", "Apply[0]@0")
	expectBody(t, "1.5()", "Float~3ff8000000000000@0", "Apply[0]@0")
	expectBody(t, "begin g end()", "Atom:g@6", "Body[0]@0", "Apply[1]@0")
	expectBody(t, "fun g/1(2)", "FunName:g#1@0", "Int#2@8", "Apply[0 1]@0")
	expectBody(t, "- g() + h()", "Call:g@2", "Op:-[0]@0", "Call:h@8", "Op:+[1 2]@0")
}

func TestP601Cases(t *testing.T) {
	expectBody(t, "case a of b -> c end", "Atom:a@5", "Atom:b@10", "Guard@12", "Atom:c@15", "Body[3]@15", "Clause#1[1 2 4]@10", "Clauses[5]@10", "Case[0 6]@0")
	expectBody(t, "case a of b when c, d -> e, f; (g) -> h end",
		"Atom:a@5", "Atom:b@10", "Atom:c@17", "Atom:d@20", "Guard[2 3]@17", "Atom:e@25", "Atom:f@28", "Body[5 6]@25", "Clause#1[1 4 7]@10",
		"Atom:g@32", "Guard@35", "Atom:h@38", "Body[11]@38", "Clause#1[9 10 12]@31", "Clauses[8 13]@10", "Case[0 14]@0")
	expectBody(t, "case a of (b) when (c) -> (d) end", "Atom:a@5", "Atom:b@11", "Atom:c@20", "Guard[2]@19", "Atom:d@27", "Body[4]@26", "Clause#1[1 3 5]@10", "Clauses[6]@10", "Case[0 7]@0")
	expectBody(t, "case a = b of c = d -> e end", "Atom:a@5", "Atom:b@9", "Match[0 1]@5", "Atom:c@14", "Atom:d@18", "Match[3 4]@14", "Guard@20", "Atom:e@23", "Body[7]@23", "Clause#1[5 6 8]@14", "Clauses[9]@14", "Case[2 10]@0")
}

func TestP601Funs(t *testing.T) {
	expectBody(t, "fun g/0", "FunName:g@0")
	expectBody(t, "fun 'g h' / 16", "FunName:g h#16@0")
	expectBody(t, "fun() -> a end", "Guard@6", "Atom:a@9", "Body[1]@9", "Clause[0 2]@3", "Clauses[3]@3", "Fun[4]@0")
	expectBody(t, "fun (X, Y) when a -> b; (_) -> c end",
		"Var:X@5", "Var:Y@8", "Atom:a@16", "Guard[2]@16", "Atom:b@21", "Body[4]@21", "Clause#2[0 1 3 5]@4",
		"Var:_@25", "Guard@28", "Atom:c@31", "Body[9]@31", "Clause#1[7 8 10]@24", "Clauses[6 11]@4", "Fun[12]@0")
	expectBody(t, "fun((X)) -> (a) end", "Var:X@5", "Guard@9", "Atom:a@13", "Body[2]@12", "Clause#1[0 1 3]@3", "Clauses[4]@3", "Fun[5]@0")
}

func TestP601Tries(t *testing.T) {
	expectBody(t, "try a after b end", "Atom:a@4", "Body[0]@4", "Clauses@6", "Clauses@6", "Atom:b@12", "Body[4]@12", "Try#1[1 2 3 5]@0")
	expectBody(t, "try (a), b after (c), d end", "Atom:a@5", "Atom:b@9", "Body[0 1]@4", "Clauses@11", "Clauses@11", "Atom:c@18", "Atom:d@22", "Body[5 6]@17", "Try#1[2 3 4 7]@0")
	expectBody(t, "try a catch b -> c end",
		"Atom:a@4", "Body[0]@4", "Clauses@6", "Atom:throw@12", "Atom:b@12", "Guard@14", "Atom:c@17", "Body[6]@17", "Clause#2[3 4 5 7]@12", "Clauses[8]@12", "Body@19", "Try[1 2 9 10]@0")
	expectBody(t, "try a of b -> c after d end",
		"Atom:a@4", "Body[0]@4", "Atom:b@9", "Guard@11", "Atom:c@14", "Body[4]@14", "Clause#1[2 3 5]@9", "Clauses[6]@9", "Clauses@16", "Atom:d@22", "Body[9]@22", "Try#1[1 7 8 10]@0")
	expectBody(t, "try a of b -> c; d -> e catch _:X when g -> h; exit:Y -> i after j end",
		"Atom:a@4", "Body[0]@4",
		"Atom:b@9", "Guard@11", "Atom:c@14", "Body[4]@14", "Clause#1[2 3 5]@9", "Atom:d@17", "Guard@19", "Atom:e@22", "Body[9]@22", "Clause#1[7 8 10]@17", "Clauses[6 11]@9",
		"Var:_@30", "Var:X@32", "Atom:g@39", "Guard[15]@39", "Atom:h@44", "Body[17]@44", "Clause#2[13 14 16 18]@30",
		"Atom:exit@47", "Var:Y@52", "Guard@54", "Atom:i@57", "Body[23]@57", "Clause#2[20 21 22 24]@47", "Clauses[19 25]@30",
		"Atom:j@65", "Body[27]@65", "Try#1[1 12 26 28]@0")
	expectBody(t, "try a of b -> c catch d -> e end",
		"Atom:a@4", "Body[0]@4", "Atom:b@9", "Guard@11", "Atom:c@14", "Body[4]@14", "Clause#1[2 3 5]@9", "Clauses[6]@9",
		"Atom:throw@22", "Atom:d@22", "Guard@24", "Atom:e@27", "Body[11]@27", "Clause#2[8 9 10 12]@22", "Clauses[13]@22", "Body@29", "Try[1 7 14 15]@0")
}

// Each class of a cclause; the At of one that is not told is that of the pattern.
func TestP601Classes(t *testing.T) {
	class := func(text, node, pattern string) {
		t.Helper()
		x := treeOf(t, front+"try a catch "+text+" -> b end.")
		if len(x.Nodes) < 7 || tell(moved(x.Nodes[4], -1, -len(front))) != node || tell(moved(x.Nodes[5], -1, -len(front))) != pattern {
			t.Errorf("P601 %s: %s; want %s, %s", text, said(tellAll(x.Nodes)), node, pattern)
		}
	}
	class("error:X", "Atom:error@12", "Var:X@18")
	class("exit : X", "Atom:exit@12", "Var:X@19")
	class("throw:X", "Atom:throw@12", "Var:X@18")
	class("'error':X", "Atom:error@12", "Var:X@20")
	class("_:X", "Var:_@12", "Var:X@14")
	class("_ %:\n:(X)", "Var:_@12", "Var:X@19")
	class("X", "Atom:throw@12", "Var:X@12")
	class("_", "Atom:throw@12", "Var:_@12")
	class("error", "Atom:throw@12", "Atom:error@12")
	class("other", "Atom:throw@12", "Atom:other@12")
	class("(error)", "Atom:throw@12", "Atom:error@13")
	class("error:error", "Atom:error@12", "Atom:error@18")
	class("1", "Atom:throw@12", "Int#1@12")
	class(`"error"`, "Atom:throw@12", "String:error@12")
}

func TestP601Receives(t *testing.T) {
	expectBody(t, "receive a -> b end", "Atom:a@8", "Guard@10", "Atom:b@13", "Body[2]@13", "Clause#1[0 1 3]@8", "Clauses[4]@8", "Body@15", "Receive[5 6]@0")
	expectBody(t, "receive after 0 -> a end", "Clauses@8", "Atom:a@19", "Body[1]@19", "Receive#1[0 2]@0")
	expectBody(t, "receive after infinity -> (a), b end", "Clauses@8", "Atom:a@27", "Atom:b@31", "Body[1 2]@26", "Receive#2[0 3]@0")
	expectBody(t, "receive after 'infinity' -> a end", "Clauses@8", "Atom:a@28", "Body[1]@28", "Receive#2[0 2]@0")
	expectBody(t, "receive a when b -> c; d -> e after 0 -> g end",
		"Atom:a@8", "Atom:b@15", "Guard[1]@15", "Atom:c@20", "Body[3]@20", "Clause#1[0 2 4]@8", "Atom:d@23", "Guard@25", "Atom:e@28", "Body[8]@28", "Clause#1[6 7 9]@23", "Clauses[5 10]@8",
		"Atom:g@41", "Body[12]@41", "Receive#1[11 13]@0")
	expectBody(t, "receive a -> b after infinity -> c end",
		"Atom:a@8", "Guard@10", "Atom:b@13", "Body[2]@13", "Clause#1[0 1 3]@8", "Clauses[4]@8", "Atom:c@33", "Body[6]@33", "Receive#2[5 7]@0")
}
