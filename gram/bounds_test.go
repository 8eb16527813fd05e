package gram_test

import (
	"fmt"
	"strings"
	"testing"

	"exitwave/api"
)

// wraps: each way to have an expression in another one: what stands ahead of it and behind it. `^` marks where the first expression begins that stands right within the outer one.
var wraps = []struct{ ahead, behind string }{
	{"(^", ")"}, {"{^", "}"}, {"{^a, ", "}"}, {"{^", ", a}"}, {"[^", "]"}, {"[^a, ", "]"}, {"[^a | ", "]"}, {"[^", " | a]"},
	{"g(^", ")"}, {"g(^a, ", ")"}, {"G(^", ")"}, {"(^g)(", ")"}, {"(^", ")()"}, {"- (^", ")"}, {"not g(^", ")"}, {"a + (^", ")"}, {"(^", ") * a"}, {"a orelse {^", "}"}, {"a == a ++ [^", "]"},
	{"catch ^", ""}, {"a = ^", ""}, {"a ! ^", ""}, {"a + a = ^", ""}, {"a orelse a ! ^", ""},
	{"begin ^", " end"}, {"begin ^a, ", " end"}, {"case ^", " of a -> a end"}, {"case ^a of ", " -> a end"}, {"case ^a of a when ", " -> a end"}, {"case ^a of a when a, ", " -> a end"}, {"case ^a of a -> ", " end"}, {"case ^a of a -> a; ", " -> a end"},
	{"fun (^", ") -> a end"}, {"fun (^a, ", ") -> a end"}, {"fun () when ^", " -> a end"}, {"fun () -> ^", " end"}, {"fun () -> ^a; (", ") -> a end"},
	{"try ^", " after a end"}, {"try ^a of ", " -> a after a end"}, {"try ^a of a when ", " -> a after a end"}, {"try ^a of a -> ", " after a end"},
	{"try ^a catch ", " -> a end"}, {"try ^a catch error:", " -> a end"}, {"try ^a catch _:a when ", " -> a end"}, {"try ^a catch a -> ", " end"}, {"try ^a catch a -> a; ", " -> a end"}, {"try ^a after ", " end"}, {"try ^a catch a -> a after ", " end"},
	{"receive ^", " -> a end"}, {"receive ^a when ", " -> a end"}, {"receive ^a -> ", " end"}, {"receive ^a -> a after 0 -> ", " end"}, {"receive after 0 -> ^", " end"}, {"receive after infinity -> ^a, ", " end"},
}

// places: each place of a source at which an expression stands within no other one.
var places = []struct{ ahead, behind string }{
	{front, "."}, {front + "a, ", ", a."}, {"-module(m). f(", ") -> a."}, {"-module(m). f(a, ", ") -> a."}, {"-module(m). f() when ", " -> a."}, {"-module(m). f() when a, ", ", a -> a."}, {"-module(m). f() -> a; f() -> ", "."}, {"-module(m). f() -> a. g(", ") -> a."},
}

// nested: an expression within others, made by wraps from which on; it begins n of them.
func nested(which, n int, one bool) (ahead, behind string, last int) {
	var front, back []string
	length := 0
	for i := range n {
		w := wraps[(which+i)%len(wraps)]
		if one {
			w = wraps[which]
		}
		last = length + strings.Index(w.ahead, "^")
		x := strings.Replace(w.ahead, "^", "", 1)
		length += len(x)
		front = append(front, x)
		back = append([]string{w.behind}, back...)
	}
	return strings.Join(front, ""), strings.Join(back, ""), last
}

// MaxDepth expressions nested have a tree; one more has none, and the fault is where it would begin.
func TestP601Deep(t *testing.T) {
	t.Parallel()
	for which := range wraps {
		for i, place := range places {
			for _, one := range []bool{true, false} {
				if i > 1 && one && which > 8 {
					continue
				}
				ahead, behind, _ := nested(which, api.MaxDepth-1, one)
				treeOf(t, place.ahead+ahead+"a"+behind+place.behind)
				ahead, behind, last := nested(which, api.MaxDepth, one)
				expectFault(t, place.ahead+ahead+"a"+behind+place.behind, api.ErrDeep, len(place.ahead)+last)
				expectFault(t, place.ahead+ahead[:last], api.ErrDeep, len(place.ahead)+last)
			}
		}
	}
}

// An expression that is at its end counts no more.
func TestP601DeepBeside(t *testing.T) {
	deep := func(n int) string { return strings.Repeat("(", n) + "a" + strings.Repeat(")", n) }
	d := deep(api.MaxDepth - 1)
	treeOf(t, front+strings.Repeat(d+", ", 20)+d+".")
	treeOf(t, "-module(m). f("+d+", "+d+") when "+d+", "+d+" -> "+d+"; f() -> "+d+". g() -> "+d+".")
	d = deep(api.MaxDepth - 2)
	treeOf(t, front+"{"+strings.Repeat(d+", ", 20)+d+"}.")
	treeOf(t, front+"a = "+d+".")
	treeOf(t, front+"catch "+d+".")
	treeOf(t, front+deep(api.MaxDepth-1)+" + "+deep(api.MaxDepth-1)+" = "+d+".")
	expectMarkedBody(t, api.ErrDeep, "a = "+strings.Repeat("(", api.MaxDepth-1)+"^a")
	expectMarkedBody(t, api.ErrDeep, "catch "+strings.Repeat("(", api.MaxDepth-1)+"^a")
	treeOf(t, front+strings.Repeat("a = ", api.MaxDepth-1)+"a.")
	expectMarkedBody(t, api.ErrDeep, strings.Repeat("a = ", api.MaxDepth)+"^a.")
	treeOf(t, front+strings.Repeat("catch ", api.MaxDepth-1)+"a.")
	expectMarkedBody(t, api.ErrDeep, strings.Repeat("catch ", api.MaxDepth)+"^a.")
	treeOf(t, front+strings.Repeat("[", api.MaxDepth)+strings.Repeat("]", api.MaxDepth)+".")
	treeOf(t, front+strings.Repeat("{", api.MaxDepth)+strings.Repeat("}", api.MaxDepth)+".")
	treeOf(t, front+strings.Repeat("g(", api.MaxDepth)+strings.Repeat(")", api.MaxDepth)+".")
	expectMarkedBody(t, api.ErrDeep, strings.Repeat("[", api.MaxDepth)+"^["+strings.Repeat("]", api.MaxDepth+1)+".")
}

// A token with which no expression begins, where one would be too deep, has that fault.
func TestP601DeepAtSyntax(t *testing.T) {
	t.Parallel()
	for _, opener := range []string{"(", "catch ", "a = ", "a ! ", "begin ", "case ", "try ", "- (", "receive after 0 -> ", "fun() -> ", "fun() when "} {
		for _, x := range append(anyToken(), "") {
			deep := strings.Repeat(opener, api.MaxDepth)
			expectMarkedBody(t, api.ErrDeep, deep+"^"+x)
			expectMarkedBody(t, api.ErrDeep, deep+"^"+x+"a.")
		}
		for _, x := range []string{")", "]", "->", ".", ",", "|", "end", "of", "when", ""} {
			expectMarkedBody(t, api.ErrSyntax, strings.Repeat(opener, api.MaxDepth-1)+"^"+x)
		}
	}
	for opener, closer := range map[string]string{"{": "}", "[": "]", "g(": ")", "G(": ")", "fun (": ")", "receive ": "after"} {
		deep := strings.Repeat(opener, api.MaxDepth)
		for _, x := range append(anyToken(), "") {
			if x == closer { // nothing is in it
				expectMarkedBody(t, api.ErrSyntax, deep+x+" ^of")
			} else {
				expectMarkedBody(t, api.ErrDeep, deep+"^"+x)
			}
		}
	}
}

// padded is the beginning of a source whose nodes leave room for so many more, with the root.
func padded(room int) string {
	const others = 6 // guard, atom, body, clause, clauses, function
	return "-module(m). p() -> " + strings.Repeat("-", api.MaxNodes-room-others) + "a. "
}

// MaxNodes nodes have a tree; of more, the first one too many is told, whichever it is.
func TestP601Nodes(t *testing.T) {
	t.Parallel()
	for _, source := range []string{
		"f(X, 1) when X > 0, (X) -> X - 1; f(_, _) -> -1.5.",
		"f() -> case {a, \"b\"} of [X, Y | Z] when true -> X; (Y) -> begin 1, 2 end end.",
		"f() -> try (a), b of c -> d catch error:X -> Y; e -> g; (h) -> i after j end, try a catch _:b -> c end, try a after b end.",
		"f() -> receive a -> b after 0 -> c end, receive after infinity -> d end, receive (e) -> g end.",
		"f() -> fun g/2, fun (X) -> X; () when a -> b end, (f)(1), f(2)(3), X = Y ! catch Z.",
		"f() -> a orelse b orelse c andalso d andalso e == f ++ g ++ h + i - j * k, - not - a.",
		"f() -> []. g() -> {}. h() -> [a].",
	} {
		whole := treeOf(t, "-module(m). "+source).Nodes
		ahead := len("-module(m). ")
		treeOf(t, padded(len(whole))+source)
		for i, n := range whole {
			at := n.At - ahead + len(padded(i))
			if i == len(whole)-1 {
				at = 0
			}
			expectFault(t, padded(i)+source, api.ErrMany, at)
		}
	}
	expectFault(t, padded(0), api.ErrMany, 0)
	if x := treeOf(t, padded(1)); len(x.Nodes) != api.MaxNodes || x.Root != api.MaxNodes-1 || tell(x.Nodes[x.Root]) != fmt.Sprintf("Module:m[%d]@0", api.MaxNodes-2) {
		t.Errorf("P601: %d nodes, root %d", len(x.Nodes), x.Root)
	}
	expectFault(t, front+strings.Repeat("-", 40000)+"a.", api.ErrMany, len(front)+40000-(api.MaxNodes-1))
	expectFault(t, front+"a"+strings.Repeat("+a", 20000)+".", api.ErrMany, len(front)+api.MaxNodes)
	expectFault(t, front+"b,a"+strings.Repeat("+a", 20000)+".", api.ErrMany, len(front)+2)
	expectFault(t, front+"a"+strings.Repeat("++a", 20000)+".", api.ErrMany, len(front)+3*(api.MaxNodes-1))
	expectFault(t, front+"f"+strings.Repeat("()", 20000)+".", api.ErrMany, len(front))
}

// A node is laid as soon as all that it stands for is gone through: of a source that goes wrong at the `^`, the nodes that begin at these places are laid ahead of that fault.
func TestP601NodesAndSyntax(t *testing.T) {
	t.Parallel()
	for _, c := range []struct {
		source string
		laid   []int
	}{
		{"f()^:", []int{3}},
		{"f(a^:", []int{2}},
		{"f(a)^:", []int{2, 4}},
		{"f() when^:", nil},
		{"f() when a^:", []int{9, 9}},
		{"f() when a ->^:", []int{9, 9}},
		{"f() -> a^:", []int{4, 7, 7, 0, 0}},
		{"f() -> a,^:", []int{4, 7}},
		{"f() -> a;^:", []int{4, 7, 7, 0}},
		{"f() -> a.^:", []int{4, 7, 7, 0, 0, 0}},
		{"f() -> {a^:", []int{4, 8}},
		{"f() -> {a}^:", []int{4, 8, 7, 7, 0, 0}},
		{"f() -> [a^:", []int{4, 8}},
		{"f() -> [a|b^:", []int{4, 8, 10}},
		{"f() -> (a + b^:", []int{4, 8, 12, 8}},
		{"f() -> (a + b)^:", []int{4, 8, 12, 8, 7, 0, 0}},
		{"f() -> a + b *^:", []int{4, 7, 11}},
		{"f() -> a * b +^:", []int{4, 7, 11, 7}},
		{"f() -> a ++ b ++^:", []int{4, 7, 12}},
		{"f() -> a == b^==", []int{4, 7, 12, 7, 7, 0, 0}},
		{"f() -> - not^:", []int{4}},
		{"f() -> - not a^:", []int{4, 13, 9, 7, 7, 0, 0}},
		{"f() -> g(^:", []int{4}},
		{"f() -> g(a^:", []int{4, 9}},
		{"f() -> g(a)(^:", []int{4, 9, 7}},
		{"f() -> G(^:", []int{4, 7}},
		{"f() -> catch a =^:", []int{4, 13}},
		{"f() -> begin a^:", []int{4, 13}},
		{"f() -> case a of b^:", []int{4, 12, 17, 18}},
		{"f() -> case a of b -> c^:", []int{4, 12, 17, 19, 22, 22, 17, 17}},
		{"f() -> fun^:", []int{4}},
		{"f() -> fun a^:", []int{4}},
		{"f() -> fun a/1^:", []int{4, 7, 7, 0, 0}},
		{"f() -> fun ()^:", []int{4, 13}},
		{"f() -> fun () -> a^:", []int{4, 14, 17, 17, 11, 11}},
		{"f() -> try a of^:", []int{4, 11, 11}},
		{"f() -> try a catch b^;", []int{4, 11, 11, 13, 19, 19, 20}},
		{"f() -> try a catch ^b:", []int{4, 11, 11, 13}},
		{"f() -> try a catch error:^:", []int{4, 11, 11, 13, 19}},
		{"f() -> try a catch b -> c^:", []int{4, 11, 11, 13, 19, 19, 21, 24, 24, 19, 19, 25}},
		{"f() -> try a after b^:", []int{4, 11, 11, 13, 13, 19, 19}},
		{"f() -> receive^:", []int{4}},
		{"f() -> receive a -> b^:", []int{4, 15, 17, 20, 20, 15, 15, 21}},
		{"f() -> receive after^:", []int{4, 15}},
		{"f() -> receive after 0^:", []int{4, 15}},
		{"f() -> receive after 0 -> a^:", []int{4, 15, 26, 26}},
	} {
		laidAheadOf(t, c.source, c.laid)
	}
}

func laidAheadOf(t *testing.T, source string, laid []int) {
	t.Helper()
	for room, at := range laid {
		ahead := padded(room)
		expectFault(t, ahead+strings.Replace(source, "^", "", 1), api.ErrMany, len(ahead)+at)
	}
	expectMarked(t, api.ErrSyntax, padded(len(laid))+source)
}

// MaxArity patterns or arguments have a tree, one more has none.
func TestP601Arity(t *testing.T) {
	full := strings.Repeat("a,", api.MaxArity-1) + "a"
	for _, c := range []struct{ ahead, behind string }{
		{"-module(m). f(", ") -> a."}, {"-module(m). f() -> a; f(", ") -> a."}, {front + "g(", ")."}, {front + "G(", ")."}, {front + "(g)(", ")."}, {front + "g()(", ")."}, {front + "g(" + full + ")(", ")."}, {front + "- g(h(", "))."},
		{front + "fun (", ") -> a end."}, {front + "fun () -> a; (", ") -> a end."}, {front + "fun a/16(", ")."},
	} {
		treeOf(t, c.ahead+full+c.behind)
		for _, one := range append(anyToken(), "'a'", "(a)", "a,a,a,a", "") {
			expectMarked(t, api.ErrMany, c.ahead+full+",^"+one+c.behind)
			expectMarked(t, api.ErrMany, c.ahead+full+", ^"+one)
		}
		expectMarked(t, api.ErrSyntax, c.ahead+full+"^;"+c.behind)
		expectMarked(t, api.ErrSyntax, c.ahead+full+"^")
		nested := strings.Repeat("g(a),", api.MaxArity-1) + "{" + full + "," + full + "}"
		treeOf(t, c.ahead+nested+c.behind)
		expectMarked(t, api.ErrMany, c.ahead+nested+",^a"+c.behind)
	}
	many := strings.Repeat("a,", 100) + "a"
	for _, c := range []string{"{%}", "[%]", "[%|a]", "begin % end", "%", "case a of a when % -> % end", "try % catch a -> % after % end"} {
		treeOf(t, front+strings.ReplaceAll(c, "%", many)+".")
	}
	treeOf(t, "-module(m). f() when "+many+" -> a.")
	nodes := treeOf(t, "-module(m). f("+full+") -> a.").Nodes
	if got, want := tell(nodes[api.MaxArity+3]), "Clause:f#16[0 1 2 3 4 5 6 7 8 9 10 11 12 13 14 15 16 18]@12"; got != want {
		t.Errorf("P601: %s; want %s", got, want)
	}
}

func TestP601FunNames(t *testing.T) {
	for n := range api.MaxArity + 1 {
		expectBody(t, fmt.Sprintf("fun g/%d", n), strings.Replace(fmt.Sprintf("FunName:g#%d@0", n), "#0", "", 1))
	}
	for _, n := range []string{"17", "18", "100", "256", "65536", "65552", "4294967296", "4294967312", "576460752303423487"} {
		expectMarkedBody(t, api.ErrMany, "fun g/^"+n+".")
		expectMarkedBody(t, api.ErrMany, "fun g / ^"+n+" ) (")
		expectMarkedBody(t, api.ErrMany, "fun g/^"+n)
	}
	expectFault(t, padded(1)+"f() -> fun g/17", api.ErrMany, len(padded(1))+13)
	expectFault(t, padded(1)+"f() -> fun g/16", api.ErrMany, len(padded(1))+7)
	for _, wrong := range []string{"fun g/^g.", "fun g/^1.5.", "fun g/^X.", "fun g/^-1.", "fun g ^1.", "fun g^/=1.", "fun ^G/1.", "fun ^1/1.", "fun ^\"g\"/1.", "fun g^(X) -> a end.", "fun ^end.", "fun g/1 ^end.", "fun g/^", "fun g^", "fun ^", "fun g/^(1)."} {
		expectMarkedBody(t, api.ErrSyntax, wrong)
	}
}
