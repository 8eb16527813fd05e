package world_test

import (
	"math"
	"regexp"
	"slices"
	"strconv"
	"strings"
	"testing"

	"exitwave/api"
	"exitwave/world"
)

func expectScript(t *testing.T, text string, want ...api.Step) {
	t.Helper()
	if l, e := world.Script(text); e != api.OK || !slices.Equal(l, want) {
		t.Errorf("P1903 Script of %q: %v, %v; want %v", text, l, e, want)
	}
}

func expectNone(t *testing.T, text string, want api.Errno) {
	t.Helper()
	if l, e := world.Script(text); e != want || len(l) != 0 {
		t.Errorf("P1903 Script of %.40q, %d bytes: %d steps, %v; want %v", text, len(text), len(l), e, want)
	}
}

// Each kind alone and behind another one.
func TestP1903Kinds(t *testing.T) {
	words := []string{"r 1 2", "d 3 4", "k 5", "c 6"}
	said := []api.Step{{Kind: api.XRun, A: 1, N: 2}, {Kind: api.XDeliver, A: 3, B: 4}, {Kind: api.XKill, A: 5}, {Kind: api.XCollect, A: 6}}
	for i, a := range words {
		expectScript(t, a, said[i])
		for j, b := range words {
			expectScript(t, a+" "+b, said[i], said[j])
		}
	}
	expectScript(t, strings.Join(words, " "), said...)
}

// Blanks stand anywhere but within words; nothing else is one.
func TestP1903Blanks(t *testing.T) {
	for _, s := range []string{"", " ", "  ", strings.Repeat(" ", 1<<20)} {
		expectScript(t, s)
	}
	for _, s := range []string{"r 1 9 k 2", " r 1 9 k 2", "r 1 9 k 2 ", "   r  1   9    k     2  ", "r 1 9" + strings.Repeat(" ", 1<<16) + "k 2"} {
		expectScript(t, s, run(1, 9), kill(2))
	}
	for b := range 256 {
		if b == ' ' {
			continue
		}
		for _, s := range []string{"k@1", "k 1@", "@k 1", "k 1@k 2", "k 1 @ k 2", "k @1", "@"} {
			s = strings.ReplaceAll(s, "@", string([]byte{byte(b)}))
			if !right.MatchString(s) {
				expectNone(t, s, api.ErrArg)
			}
		}
	}
	expectNone(t, "k\u00a01", api.ErrArg)
	expectNone(t, "k\u20031", api.ErrArg)
}

// Words that are none, wherever they stand.
func TestP1903Words(t *testing.T) {
	for _, s := range []string{"x", "R 1 1", "K 1", "rr 1 1", "r1 1", "kc 1", "1", "0", "-", "run 1 1", "ŕ 1 1", "k1"} {
		for _, text := range []string{s, "k 1 " + s, s + " k 1", "r 1 " + s, " " + s + " "} {
			if !right.MatchString(text) {
				expectNone(t, text, api.ErrArg)
			}
		}
	}
}

// Numbers: of nine digits, not of ten; a 0 ahead only where it is alone; no sign, no other way to write one.
func TestP1903Numbers(t *testing.T) {
	for _, n := range []int{0, 1, 9, 10, 19, 90, 99, 100, 65536, 65537, 100000000, 123456789, 987654321, 999999999} {
		s := strconv.Itoa(n)
		expectScript(t, "r "+s+" 7 r 7 "+s+" d "+s+" 7 d 7 "+s+" k "+s+" c "+s, run(n, 7), run(7, n), deliver(n, 7), deliver(7, n), kill(n), collect(n))
	}
	for _, s := range []string{
		"1000000000", "1234567890", "9999999999", "0000000001", "00", "01", "007", "000000000", "012345678", "-1", "+1", "-0", "+0", "1.0", "1e3", "0x1", "1_0", "1a", "a1", "a", "/", ":", "1:", "1/",
		"４", "1,", "18446744073709551617", strings.Repeat("1", 1<<16), strings.Repeat("0", 1<<16),
	} {
		for _, text := range []string{"r " + s + " 1", "r 1 " + s, "d " + s + " 1", "d 1 " + s, "k " + s, "c " + s, "k 1 k " + s + " k 1"} {
			expectNone(t, text, api.ErrArg)
		}
	}
}

// Too few and too many numbers, at the end and ahead of another step.
func TestP1903HowMany(t *testing.T) {
	for _, s := range []string{"r", "r 1", "r 1 2 3", "d", "d 1", "d 1 2 3", "k", "k 1 2", "k 1 2 3", "c", "c 1 2"} {
		for _, text := range []string{s, s + " ", s + " k 1", "k 1 " + s, s + " " + s} {
			expectNone(t, text, api.ErrArg)
		}
	}
}

// MaxSteps steps, and one more; a text that is none comes first, wherever its fault is.
func TestP1903Many(t *testing.T) {
	for _, word := range []string{"r 1 9 ", "d 1 2 ", "k 3 ", "c 4 "} {
		one := steps(t, word)[0]
		expectScript(t, strings.Repeat(word, api.MaxSteps), slices.Repeat([]api.Step{one}, api.MaxSteps)...)
		for _, many := range []int{api.MaxSteps + 1, api.MaxSteps + 2, 1 << 16} {
			expectNone(t, strings.Repeat(word, many), api.ErrMany)
			for _, s := range []string{"x", "k", "k 01", "r 1"} {
				expectNone(t, strings.Repeat(word, many)+s, api.ErrArg)
				expectNone(t, s+" "+strings.Repeat(word, many), api.ErrArg)
			}
		}
	}
}

// right is what a text must be; said is one step of it.
var (
	right = regexp.MustCompile(strings.ReplaceAll(`^ *((r +N +N|d +N +N|k +N|c +N)( +|$))*$`, "N", "(0|[1-9][0-9]{0,8})"))
	said  = regexp.MustCompile(`([rdkc]) +([0-9]+)(?: +([0-9]+))?`)
)

// reading is Script once more, by regular expressions.
func reading(text string) ([]api.Step, api.Errno) {
	if !right.MatchString(text) {
		return nil, api.ErrArg
	}
	var l []api.Step
	for _, m := range said.FindAllStringSubmatch(text, -1) {
		a, _ := strconv.Atoi(m[2])
		b, _ := strconv.Atoi(m[3])
		l = append(l, map[string]api.Step{"r": run(a, b), "d": deliver(a, b), "k": kill(a), "c": collect(a)}[m[1]])
	}
	return l, api.OK
}

func expectReading(t *testing.T, text string) (is bool) {
	t.Helper()
	want, e := reading(text)
	if l, got := world.Script(text); got != e || !slices.Equal(l, want) {
		t.Fatalf("P1903 Script of %q: %v, %v; want %v, %v", text, l, got, want, e)
	}
	return e == api.OK
}

// Each text of few bytes; longer ones by chance.
func TestP1903Texts(t *testing.T) {
	const few = "rdkc 01x"
	for length := range 7 {
		for n := range int(math.Pow(float64(len(few)), float64(length))) {
			b := make([]byte, length)
			for i := range b {
				b[i], n = few[n%len(few)], n/len(few)
			}
			expectReading(t, string(b))
		}
	}
	r := newChance(1903)
	rights := 0
	for range 100000 {
		var l []string
		for range r.Intn(6) {
			l = append(l, r.of("r 1 2", "d 3 40", "k 0", "c 999999999", "k 5", "r 0 0", r.of("r", "d", "k", "c", "1", "07", "", "", "1234567890", "x")))
		}
		if expectReading(t, strings.Join(l, r.of(" ", "  "))) {
			rights++
		}
	}
	if rights < 20000 || rights > 80000 {
		t.Errorf("of 100000 texts by chance %d are right", rights)
	}
}

func expectText(t *testing.T, want string, l ...api.Step) {
	t.Helper()
	if got := world.Text(l); got != want {
		t.Errorf("P1903 Text of %v: %q; want %q", l, got, want)
	}
}

func TestP1903Text(t *testing.T) {
	expectText(t, "")
	expectText(t, "r 1 9", run(1, 9))
	expectText(t, "d 1 2", deliver(1, 2))
	expectText(t, "k 3", kill(3))
	expectText(t, "c 4", collect(4))
	expectText(t, "r 0 0 d 0 0 k 0 c 0", run(0, 0), deliver(0, 0), kill(0), collect(0))
	expectText(t, "c 4 k 3 d 1 2 r 1 9 r 1 9", collect(4), kill(3), deliver(1, 2), run(1, 9), run(1, 9))
	expectText(t, "r 999999999 999999999 d 999999999 999999999 k 999999999 c 999999999", run(999999999, 999999999), deliver(999999999, 999999999), kill(999999999), collect(999999999))
}

// Steps that cannot be said are left out, where they stand alone, ahead, between and behind others.
func TestP1903LeftOut(t *testing.T) {
	var l []api.Step
	for _, kind := range []int{0, -1, 5, 6, math.MinInt, math.MaxInt, 1<<32 + 1} {
		l = append(l, api.Step{Kind: kind}, api.Step{Kind: kind, A: 1}, api.Step{Kind: kind, A: 1, N: 1})
	}
	for _, n := range append([]int{1000000000, 1 << 30}, beyond...) {
		l = append(l, run(n, 1), run(1, n), run(n, n), deliver(n, 1), deliver(1, n), kill(n), collect(n))
	}
	for _, n := range append([]int{1, 7, 999999999, 1000000000}, beyond...) {
		l = append(l, api.Step{Kind: api.XRun, A: 1, B: n, N: 1}, api.Step{Kind: api.XDeliver, A: 1, B: 1, N: n})
		for _, kind := range []int{api.XKill, api.XCollect} {
			l = append(l, api.Step{Kind: kind, A: 1, B: n}, api.Step{Kind: kind, A: 1, N: n}, api.Step{Kind: kind, A: 1, B: n, N: n})
		}
	}
	for _, x := range l {
		expectText(t, "", x)
		expectText(t, "k 1", x, kill(1))
		expectText(t, "k 1", kill(1), x)
		expectText(t, "k 1 d 2 3", kill(1), x, x, deliver(2, 3))
	}
	expectText(t, "", l...)
}

// Text says however many steps there are: that they are too many, Script tells.
func TestP1903LongText(t *testing.T) {
	for _, many := range []int{api.MaxSteps, api.MaxSteps + 1, 1 << 16} {
		if s, want := world.Text(slices.Repeat([]api.Step{run(1, 9)}, many)), strings.Repeat(" r 1 9", many)[1:]; s != want {
			t.Errorf("P1903 Text of %d steps has %d bytes; want %d", many, len(s), len(want))
		}
	}
	expectNone(t, world.Text(slices.Repeat([]api.Step{kill(1)}, api.MaxSteps+1)), api.ErrMany)
}

// canBeSaid is what Text says of a step, once more.
func canBeSaid(x api.Step) bool {
	for _, n := range []int{x.A, x.B, x.N} {
		if n < 0 || n > 999999999 {
			return false
		}
	}
	switch x.Kind {
	case api.XRun:
		return x.B == 0
	case api.XDeliver:
		return x.N == 0
	}
	return (x.Kind == api.XKill || x.Kind == api.XCollect) && x.B == 0 && x.N == 0
}

// Script of Text is the steps that can be said: each of few numbers alone, and some by chance.
func TestP1907(t *testing.T) {
	few := []int{math.MinInt, -1, 0, 1, 9, 10, 999999999, 1000000000, math.MaxInt}
	var every []api.Step
	for kind := -1; kind <= 6; kind++ {
		for _, a := range few {
			for _, b := range few {
				for _, n := range few {
					every = append(every, api.Step{Kind: kind, A: a, B: b, N: n})
				}
			}
		}
	}
	for _, x := range every {
		expectSaid(t, []api.Step{x})
	}
	r := newChance(1907)
	for range 5000 {
		var l []api.Step
		for range r.Intn(20) {
			l = append(l, every[r.Intn(len(every))])
			l = append(l, r.script(2)...)
		}
		expectSaid(t, l)
	}
}

func expectSaid(t *testing.T, l []api.Step) {
	t.Helper()
	var want []api.Step
	for _, x := range l {
		if canBeSaid(x) {
			want = append(want, x)
		}
	}
	s := world.Text(l)
	got, e := world.Script(s)
	if e != api.OK || !slices.Equal(got, want) {
		t.Fatalf("P1907 Script of Text of %v: %v, %v; want %v", l, got, e, want)
	}
	if again := world.Text(got); again != s || strings.Contains(s, "  ") || strings.TrimSpace(s) != s {
		t.Fatalf("P1903 Text of %v: %q; and again %q", l, s, again)
	}
}
