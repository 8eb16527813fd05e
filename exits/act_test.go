package exits_test

import (
	"slices"
	"testing"

	"exitwave/api"
	"exitwave/exits"
)

// row is one of P1602's table: of signals because of a link or not, when it holds, what it tells.
type row struct {
	link bool
	when func(s api.Signal, trap bool) bool
	tell func(s api.Signal) exits.Outcome
}

// rows are the table as the chapter has it: the first row that holds is taken.
func rows() []row {
	is := func(word string) func(api.Signal, bool) bool {
		return func(s api.Signal, _ bool) bool { return alikeTerm(s.Term, atom(word)) }
	}
	trapped := func(_ api.Signal, trap bool) bool { return trap }
	fromOther := func(s api.Signal, trap bool) bool { return is("normal")(s, trap) && s.From != s.To }
	always := func(api.Signal, bool) bool { return true }
	nothing := func(api.Signal) exits.Outcome { return exits.Outcome{Kind: exits.Nothing} }
	ends := func(s api.Signal) exits.Outcome { return endsWith(s.Term) }
	killed := func(api.Signal) exits.Outcome { return endsWith(atom("killed")) }
	return []row{
		{true, trapped, exitMessage},
		{true, is("normal"), nothing},
		{true, always, ends},
		{false, is("kill"), killed},
		{false, trapped, exitMessage},
		{false, fromOther, nothing},
		{false, always, ends},
	}
}

func exitMessage(s api.Signal) exits.Outcome {
	x := tuple(atom("EXIT"), pid(s.From), s.Term)
	if !within(x) {
		x = tuple(atom("EXIT"), pid(s.From), atom("system_limit"))
	}
	return messageOf(x)
}

// rowOf is the place of the row that holds.
func rowOf(s api.Signal, trap bool) int {
	return slices.IndexFunc(rows(), func(r row) bool { return r.link == s.Link && r.when(s, trap) })
}

func acted(s api.Signal, trap bool) exits.Outcome { return rows()[rowOf(s, trap)].tell(s) }

// All reasons with all that the table asks for: each row is met.
func TestP1602Table(t *testing.T) {
	met := [7]int{}
	for _, reason := range append(smalls(), bounds()[0], wide(api.MaxWords)) {
		for _, end := range [][2]int{{3, 1}, {1, 1}, {1, 3}, {0, 1}, {far, far}, {far, far - 1}, {0, far}} {
			for n := range 4 {
				s, trap := exitOf(end[0], end[1], n%2 > 0, reason), n/2 > 0
				met[rowOf(s, trap)]++
				expectAct(t, s, trap, acted(s, trap), api.OK)
			}
		}
	}
	for n, count := range met {
		if count < 2 {
			t.Errorf("row %d: met %d times", n, count)
		}
	}
}

// The rows once more, each answer written out.
func TestP1602Rows(t *testing.T) {
	caught := func(from int, reason string) exits.Outcome {
		return messageOf(tuple(atom("EXIT"), pid(from), atom(reason)))
	}
	for _, c := range []struct {
		from   int
		link   bool
		reason string
		trap   bool
		want   exits.Outcome
	}{
		{3, true, "normal", true, caught(3, "normal")},
		{1, true, "normal", true, caught(1, "normal")},
		{3, true, "kill", true, caught(3, "kill")},
		{3, true, "a", true, caught(3, "a")},
		{3, true, "normal", false, exits.Outcome{}},
		{1, true, "normal", false, exits.Outcome{}},
		{3, true, "kill", false, endsWith(atom("kill"))},
		{3, true, "killed", false, endsWith(atom("killed"))},
		{3, true, "noproc", false, endsWith(atom("noproc"))},
		{1, true, "a", false, endsWith(atom("a"))},
		{3, false, "kill", true, endsWith(atom("killed"))},
		{1, false, "kill", true, endsWith(atom("killed"))},
		{3, false, "kill", false, endsWith(atom("killed"))},
		{1, false, "kill", false, endsWith(atom("killed"))},
		{0, false, "kill", true, endsWith(atom("killed"))},
		{3, false, "normal", true, caught(3, "normal")},
		{1, false, "normal", true, caught(1, "normal")},
		{3, false, "killed", true, caught(3, "killed")},
		{0, false, "a", true, caught(0, "a")},
		{3, false, "normal", false, exits.Outcome{}},
		{0, false, "normal", false, exits.Outcome{}},
		{1, false, "normal", false, endsWith(atom("normal"))},
		{3, false, "killed", false, endsWith(atom("killed"))},
		{1, false, "a", false, endsWith(atom("a"))},
	} {
		expectAct(t, exitOf(c.from, 1, c.link, atom(c.reason)), c.trap, c.want, api.OK)
	}
}

// {'EXIT', From, R} has 4 words more than R, and is one deeper.
func TestP1602Bounds(t *testing.T) {
	for _, link := range []bool{false, true} {
		for _, x := range []api.Term{wide(api.MaxWords - 5), wide(api.MaxWords - 4), deep(api.MaxDepth - 2), deep(api.MaxDepth - 1)} {
			expectAct(t, exitOf(3, 1, link, x), true, messageOf(tuple(atom("EXIT"), pid(3), x)), api.OK)
			expectAct(t, exitOf(3, 1, link, x), false, endsWith(x), api.OK)
		}
		for _, x := range []api.Term{wide(api.MaxWords - 3), wide(api.MaxWords - 2), wide(api.MaxWords), deep(api.MaxDepth)} {
			expectAct(t, exitOf(3, 1, link, x), true, messageOf(tuple(atom("EXIT"), pid(3), atom("system_limit"))), api.OK)
			expectAct(t, exitOf(3, 1, link, x), false, endsWith(x), api.OK)
		}
	}
}

func TestP1602Refused(t *testing.T) {
	for _, trap := range []bool{false, true} {
		for err, l := range refused(api.SExit) {
			for _, s := range l {
				expectAct(t, s, trap, exits.Outcome{}, err)
				s.Link = false
				expectAct(t, s, trap, exits.Outcome{}, err)
			}
		}
	}
}

func TestP1602OtherKinds(t *testing.T) {
	for _, trap := range []bool{false, true} {
		for _, s := range others(api.SExit) {
			expectAct(t, s, trap, exits.Outcome{}, api.ErrArg)
		}
		for _, kind := range kinds {
			for err, l := range refused(kind) {
				for _, s := range l {
					expectAct(t, s, trap, exits.Outcome{}, err)
				}
			}
		}
		for _, kind := range []int{0, 9, -5, 1<<32 + api.SExit} {
			s := exitOf(3, 1, true, atom("a"))
			s.Kind = kind
			expectAct(t, s, trap, exits.Outcome{}, api.ErrArg)
		}
		expectAct(t, api.Signal{}, trap, exits.Outcome{}, api.ErrArg)
	}
}

func TestP1602Own(t *testing.T) {
	for _, x := range rights() {
		for n := range 4 {
			given, trap := exitOf(3, 1, n%2 > 0, copied(x)), n/2 > 0
			first, _ := exits.Act(given, trap)
			second, _ := exits.Act(given, trap)
			want := acted(exitOf(3, 1, n%2 > 0, x), trap)
			if !alikeTerm(given.Term, x) || !roomStands(given.Term) {
				t.Errorf("P2 Act(%s, %v) changed what it was given", said(x), trap)
			}
			spoilt(given.Term)
			spoilt(second.Term)
			if !alikeOutcome(first, want) {
				t.Errorf("P2 Act(%s, %v): shares memory", said(x), trap)
			}
		}
	}
}
