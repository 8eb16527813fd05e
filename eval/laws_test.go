package eval_test

import (
	"fmt"
	"math/rand"
	"slices"
	"strings"
	"testing"

	"exitwave/api"
)

// held holds machines against the oracle, and tells what they came to.
func held(t *testing.T, source string, x api.Tree, name string, l []api.Term, fuel int, seed int64) string {
	t.Helper()
	m, e := askStart(t, x, name, l...)
	if e != api.OK {
		t.Fatalf("P1001 %s: %v", short(source), e)
	}
	m.from = source
	want, wantLeft, wantLog := foreseen(x, name, l, fuel, seed)
	got, left, log := lived(m, fuel, seed)
	if got != want || left != wantLeft || !slices.Equal(log, wantLog) {
		t.Fatalf("P1002 %s: %s %s: %s, %d left, behind %v; want %s, %d left, behind %v", source, name, said(list(l...)), got, left, log, want, wantLeft, wantLog)
	}
	return got
}

// Sources that are made by chance, in worlds that are made by chance.
func TestP1002Grown(t *testing.T) {
	r := rand.New(rand.NewSource(1002))
	counts := map[string]int{}
	for range 3000 {
		source, x, is := grown(r, 5+r.Intn(50))
		if !is {
			counts["not mended"]++
			continue
		}
		for k := range 3 {
			name := []string{"f", "g", "h"}[k]
			l := []api.Term{someTerm(r), someTerm(r)}[:k]
			end := held(t, source, x, name, l, r.Intn(60), r.Int63())
			if first, rest, _ := strings.Cut(end, " "); rest != "" && slices.Contains([]string{"error", "exit", "throw"}, first) {
				if first == "error" {
					counts[end]++
				}
				counts[first]++
			} else if end == "spent" || end == "wait" {
				counts[end]++
			} else {
				counts["value"]++
			}
		}
	}
	for _, what := range []string{"value", "error", "exit", "throw", "spent", "wait", "error badarg", "error badarith", "error badmatch", "error case_clause", "error try_clause", "error function_clause", "error badfun", "error badarity"} {
		if counts[what] < 10 {
			t.Errorf("%s: %d times among %v: too few to tell", what, counts[what], counts)
		}
	}
	if counts["not mended"] > 2000 {
		t.Errorf("the sources are not as meant: %v", counts)
	}
}

// The same with few more nodes that may wait: 10000 or nearly so do already.
func TestP1002GrownAtTheBound(t *testing.T) {
	r := rand.New(rand.NewSource(1003))
	limits := 0
	for range 15 {
		source, x, is := grown(r, 5+r.Intn(50))
		if !is {
			continue
		}
		// The call of f is behind so many matches that wait.
		source = strings.Replace(source, "-module(m).", "-module(m). down(0) -> f(); down(N) -> _ = down(N - 1).", 1)
		x = treeOf(t, strings.TrimPrefix(source, "-module(m)."))
		end := held(t, source, x, "down", []api.Term{whole(int64(most - 2 - r.Intn(6)))}, most+100, r.Int63())
		if strings.Contains(end, "system_limit") {
			limits++
		}
	}
	if limits < 3 {
		t.Errorf("%d of them came to the bound: too few to tell", limits)
	}
}

// forms: in each @ any expression may stand; X, Y, Z are variables of its own.
var forms = []string{
	"{@, @}", "[@ | @]", "@ + @", "@ andalso @", "@ orelse @", "(@) ! (@)", "g(@)", "(@)(@)", "X = @", "{X, Y} = @", "begin @, @ end", "case @ of 1 -> @; {X, _} -> @ end", "case @ of X when X -> @; X -> {X} end", "catch @", "fun(X) -> @ end", "(fun(X) -> @ end)(@)",
	"try @ catch _:Z -> {Z} end", "try @ of 1 -> @; X -> {X} catch X -> @ end", "try @ after @ end", "try @ of 1 -> @ catch error:X -> {X}; exit:_ -> @ after @ end", "receive 1 -> @; {X, Y} -> @ after 0 -> @ end", "receive X -> @ end", "not (@)", "throw(@)", "exit(@)", "out(@)",
}

var leaves = []string{"1", "true", "{1, 2}", "[]", "throw(1)", "exit({1, 2})", "error(a)", "out(1)", "g(0)", "1 = 2", "fun g/1"}

// filled puts expressions into a form, whose variables are renamed ahead of that.
func filled(r *rand.Rand, form string, with func() string) string {
	for _, name := range []string{"X", "Y", "Z"} {
		form = strings.ReplaceAll(form, name, fmt.Sprint(name, r.Intn(1000000)))
	}
	parts := strings.Split(form, "@")
	s := parts[0]
	for _, part := range parts[1:] {
		s += "(" + with() + ")" + part
	}
	return s
}

// Forms within forms: each in each other one, with all that may come of it.
func TestP1002Forms(t *testing.T) {
	r := rand.New(rand.NewSource(1004))
	leaf := func() string { return leaves[r.Intn(len(leaves))] }
	for _, outer := range forms {
		for _, inner := range forms {
			some := func() string {
				if r.Intn(3) == 0 {
					return leaf()
				}
				return filled(r, inner, leaf)
			}
			for range 10 {
				functions := "f() -> " + filled(r, outer, some) + ". g(0) -> out(g); g(X) -> [X]."
				held(t, functions, treeOf(t, functions), "f", nil, 40, r.Int63())
			}
		}
	}
}
