package gram_test

import (
	"math/rand"
	"strings"
	"testing"

	"exitwave/api"
	"exitwave/gram"
	"exitwave/lex"
)

// Each rule of the grammar, with a token that may not stand there at the `^`.
func TestP601Syntax(t *testing.T) {
	for _, source := range []string{
		"^", " \n%\n^", "^module(m).", "-^", "-^modul(m).", "-^Module(m).", "-^\"module\"(m).", "-^end(m).", "-module^", "-module^.", "-module ^m.", "-module(^", "-module(^).", "-module(^M).", "-module(^1).", "-module(m^", "-module(m^, n).", "-module(m)^", "-module(m)^;", "-module(m) ^f() -> a.",
		"-module(m).^.", "-module(m). ^-module(m).", "-module(m). ^X() -> a.", "-module(m). ^1.", "-module(m). ^(f)() -> a.", "-module(m). ^end.", "-module(m). f^", "-module(m). f^.", "-module(m). f ^-> a.", "-module(m). f(^", "-module(m). f(^; a) -> b.", "-module(m). f(^, a) -> b.", "-module(m). f(a^", "-module(m). f(a,^) -> b.", "-module(m). f(a ^b) -> c.", "-module(m). f(a^] -> b.",
		"-module(m). f()^", "-module(m). f()^.", "-module(m). f()^(b) -> a.", "-module(m). f() ^= a.", "-module(m). f() when ^-> a.", "-module(m). f() when a ^when b -> a.", "-module(m). f() when a^; b -> a.", "-module(m). f() when a, ^-> b.", "-module(m). f() -> ^", "-module(m). f() -> ^.", "-module(m). f() -> a^", "-module(m). f() -> a,^.", "-module(m). f() -> a;^.", "-module(m). f() -> a; ^X() -> a.", "-module(m). f() -> a; f^.", "-module(m). f() -> a ^-> b.", "-module(m). f() -> a.^.", "-module(m). f() -> a. ^; f() -> b.",
	} {
		expectMarked(t, api.ErrSyntax, source)
	}
}

func TestP601SyntaxOfExprs(t *testing.T) {
	for _, body := range []string{
		"a ^b.", "a ^1.", "1 ^X.", "a ^{}.", "a ^[].", "X ^\"s\".", "a ^: b.", "a ^| b.", "^* a.", "^+ a.", "^++ a.", "^= a.", "^! a.", "^/ a.", "^== a.", "^andalso a.", "^orelse a.", "^div a.", "^rem a.", "^when a.", "^-> a.", "^: a.", "^| a.", "^, a.", "^; a.",
		"a + ^.", "a * ^.", "a ++ ^.", "a == ^.", "a andalso ^.", "a orelse ^.", "a = ^.", "a ! ^.", "- ^.", "not ^.", "catch ^.", "a + ^+ b.", "a + ^* b.", "a == ^= b.", "a ++ ^++ b.", "a = ^= b.", "a + ^catch b.", "a == ^catch b.", "- ^catch a.", "not ^catch a.", "a orelse ^catch b.", "a andalso ^catch b.", "a ++ ^catch b.",
		"a == b ^== c.", "a < b ^> c.", "a =< b ^>= c.", "a =:= b ^=/= c.", "a /= b ^/= c.", "a == b ++ c ^== d.", "a == b + c ^< d.", "a ^not b.",
		"(^).", "(a^.", "(a^, b).", "(a ^b).", "(a^].", "(^", "(a^", "{^", "{a^", "{a,^}.", "{^,a}.", "{a^).", "{a ^b}.", "{a^; b}.", "{a^| b}.", "[^", "[a^", "[a,^].", "[^,a].", "[^|a].", "[a|^].", "[a | b^| c].", "[a | b^, c].", "[a|b^", "[a^}.",
		"g(^", "g(a^", "g(a,^).", "g(^,a).", "g(a^].", "g(a^; b).", "g(a)^[].", "g()(^", "g()(a^].", "g(a ^| b", "1(^]",
		"begin ^end.", "begin a^.", "begin a, ^end.", "begin a^; b end.", "begin ^", "case ^of.", "case ^", "case a^", "case a^.", "case a^, b of c -> d end.", "case a ^end.", "case a of ^end.", "case a of ^", "case a of b^", "case a of b ^end.", "case a of b^, c -> d end.", "case a of b -> ^end.", "case a of b -> c^", "case a of b -> c^.", "case a of b -> c; ^end.", "case a of b when ^-> c end.", "case a of b -> c ^of.", "case a of b -> c ^after d end.",
		"fun^", "fun (^", "fun (a^", "fun ()^", "fun () ^end.", "fun () -> ^end.", "fun () -> a^.", "fun () -> a; ^end.", "fun () -> a; ^f() -> b end.", "fun (a,^) -> b end.", "fun () when ^-> a end.",
		"try ^", "try ^end.", "try catch ^.", "try ^of a -> b end.", "try ^after a end.", "try a^", "try a^.", "try a ^end.", "try a, ^end.", "try a of ^", "try a of catch ^.", "try a of ^end.", "try a of b -> c ^end.", "try a of b -> c; catch d -> e ^end.", "try a of b -> c^", "try a of b ^catch.", "try a ^when b -> c end.",
		"try a catch ^end.", "try a catch ^", "try a catch b^", "try a catch b ^end.", "try a catch b -> ^end.", "try a catch b -> c^", "try a catch b -> c^.", "try a catch b -> c; ^end.", "try a catch b -> c; ^after d end.", "try a catch b -> c ^of.", "try a catch b -> c ^catch d -> e end.", "try a after b ^catch c -> d end.", "try a after ^end.", "try a after ^", "try a after b^", "try a after b^.", "try a after b, ^end.", "try a after b ^after c end.", "try a after b^; c end.", "try a after 0 ^-> b end.",
		"receive ^", "receive ^end.", "receive ^.", "receive ^of.", "receive a^", "receive a ^end.", "receive a ^after 0 -> b end.", "receive a -> ^end.", "receive a -> b^", "receive a -> b^.", "receive a -> b; ^end.", "receive a -> b; ^after 0 -> c end.", "receive a -> b ^-> c end.", "receive a^, b -> c end.",
		"receive after ^", "receive after ^-> a end.", "receive after ^1 -> a end.", "receive after ^0.0 -> a end.", "receive after ^X -> a end.", "receive after ^infinite -> a end.", "receive after ^(0) -> a end.", "receive after ^\"infinity\" -> a end.", "receive after ^'0' -> a end.", "receive after ^-0 -> a end.", "receive after 0^", "receive after 0 ^end.", "receive after 0 ^+ 0 -> a end.", "receive after 0^, a end.", "receive after infinity ^end.", "receive after 0 -> ^end.", "receive after 0 -> a^", "receive after 0 -> a^.", "receive after 0 -> a^; b -> c end.", "receive after 0 -> a ^after 0 -> b end.", "receive a -> b after ^1 -> c end.",
	} {
		expectMarkedBody(t, api.ErrSyntax, body)
	}
}

// A class that is none: the fault is at it, not at the `:`.
func TestP601WrongClasses(t *testing.T) {
	for _, class := range []string{"a", "X", "_x", "errors", "'Error'", "''", "exi", "__", "Throw", "'_'", "infinity", "'error '"} {
		expectMarkedBody(t, api.ErrSyntax, "try a catch ^"+class+":b -> c end.")
		expectMarkedBody(t, api.ErrSyntax, "try a catch ^"+class+" : b -> c end.")
		expectMarkedBody(t, api.ErrSyntax, "try a catch ^"+class+":")
		expectMarkedBody(t, api.ErrSyntax, "try a catch b -> c; ^"+class+":d -> e end.")
		expectMarkedBody(t, api.ErrSyntax, "try a of b -> c catch error:d -> e; ^"+class+" %\n: f -> g after h end.")
	}
	for _, body := range []string{
		"try a catch 1^:b -> c end.", "try a catch \"error\"^:b -> c end.", "try a catch (error)^:b -> c end.", "try a catch {}^:b -> c end.", "try a catch error(b)^:c -> d end.", "try a catch - error^:b -> c end.",
		"try a catch error:^", "try a catch error:^-> a end.", "try a catch error:^:b -> c end.", "try a catch error:b^:c -> d end.", "try a catch error:error^:c -> d end.", "try a catch _:_^:_ -> d end.", "try a catch error^", "try a catch error ^end.", "try a catch a + error^:b -> c end.",
		"try a of error^:b -> c catch d -> e end.", "case a of error^:b -> c end.", "receive error^:b -> c end.", "fun (error^:b) -> c end.", "error^:b.", "_^:b.", "try error^:a catch b -> c end.", "try a catch b when error^:c -> d end.", "try a catch b -> error^:c end.", "catch error^:b.",
	} {
		expectMarkedBody(t, api.ErrSyntax, body)
	}
}

// A fault of the tokens is told, wherever it stands, and whatever else is wrong.
func TestP601TokenFaults(t *testing.T) {
	for text, e := range map[string]api.Errno{"?": api.ErrChar, "\x00": api.ErrChar, "01": api.ErrNumber, "#1": api.ErrNumber, "'a": api.ErrQuote, `"\q"`: api.ErrQuote, strings.Repeat("a", 65): api.ErrQuote} {
		for _, ahead := range []string{"", " ", front, "-modul(m). ", "] end ", front + "1 +. ", front + strings.Repeat("(", 300), front + "fun f/17, ", front + strings.Repeat("a, ", 20000), "-module(m). "} {
			expectFault(t, ahead+text, e, len(ahead))
			expectFault(t, ahead+text+" ^ 01", e, len(ahead))
		}
	}
	for _, source := range []string{strings.Repeat(" ", api.MaxSource+1), "-module(m)." + strings.Repeat(" ", api.MaxSource), strings.Repeat("?", api.MaxSource+1), strings.Repeat("-module(m).", 6000)} {
		expectFault(t, source, api.ErrLong, 0)
	}
	full := "-module(m)."
	full += strings.Repeat(" ", api.MaxSource-len(full))
	expectNodes(t, full, "Module:m@0")
	expectFault(t, strings.Repeat(" ", api.MaxSource), api.ErrSyntax, api.MaxSource)
}

// Any bytes have a tree or a fault; the fault is the tokens', if these have one.
func TestP603AnyBytes(t *testing.T) {
	t.Parallel()
	r := rand.New(rand.NewSource(603))
	for range 10000 {
		b := make([]byte, r.Intn(40))
		for i := range b {
			b[i] = byte(r.Intn(256))
		}
		oneOfBoth(t, string(b))
		oneOfBoth(t, front+string(b))
	}
	all := anyToken()
	for i := range 1000 {
		var source strings.Builder
		if i%3 > 0 {
			source.WriteString(front)
		}
		for range r.Intn(400) {
			source.WriteString(all[r.Intn(len(all))] + " ")
		}
		oneOfBoth(t, source.String())
	}
	for _, x := range all {
		oneOfBoth(t, front+strings.Repeat(x, (api.MaxSource-len(front))/len(x)))
		oneOfBoth(t, front+strings.Repeat(x+" ", (api.MaxSource-len(front))/(len(x)+1)))
	}
}

// oneOfBoth asks for a tree or a fault, not both, and for the same when it is asked again (P3, P4).
func oneOfBoth(t *testing.T, source string) {
	t.Helper()
	x, f := gram.Parse(source)
	if (f.Err == api.OK) != (len(x.Nodes) > 0) || f.Err == api.OK && f.At != 0 || len(x.Nodes) == 0 && x.Root != 0 {
		t.Errorf("P603 %s: %v, %d nodes, root %d", said(source), f, len(x.Nodes), x.Root)
	}
	if _, g := lex.Tokens(source); g.Err != api.OK && f != g {
		t.Errorf("P601 %s: %v; its tokens have the fault %v", said(source), f, g)
	}
	if y, g := gram.Parse(source); f != g || !sameTree(x, y) {
		t.Errorf("P3 %s: %v, %d nodes; then %v, %d nodes", said(source), f, len(x.Nodes), g, len(y.Nodes))
	}
}
