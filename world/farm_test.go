package world_test

import (
	"fmt"
	"runtime"
	"slices"
	"strings"
	"testing"
	"time"

	"exitwave/api"
	"exitwave/world"
)

// oneByOne is Farm once more: one source behind the other.
func oneByOne(sources []string, c api.Config, l []api.Step) []string {
	var told []string
	for _, source := range sources {
		s, err := world.Run(source, c, l)
		if err != nil {
			s = api.State{}
		}
		told = append(told, all(s))
	}
	return told
}

func expectFarm(t *testing.T, crew int, sources []string, c api.Config, l []api.Step, want []string) {
	t.Helper()
	told, e := world.Farm(crew, sources, c, l)
	var got []string
	for _, s := range told {
		got = append(got, all(s))
	}
	if e != api.OK || !slices.Equal(got, want) {
		t.Fatalf("P1904 Farm of %d and %d sources: %v, %q; want %q", crew, len(sources), e, got, want)
	}
}

// numbered are sources that say which one they are; each third one Run refuses.
func numbered(many int) []string {
	var l []string
	for i := range many {
		switch i % 3 {
		case 2:
			l = append(l, fmt.Sprintf("-module(m). main() -> X%d.", i))
		default:
			l = append(l, mainly(fmt.Sprintf("P = spawn_link(%s), P ! %d, out(%d)", waits, i, i)))
		}
	}
	return l
}

// Of each source its own state, in the place of the source: of no sources, fewer and more than the crew.
func TestP1904Farm(t *testing.T) {
	l := steps(t, "r 1 3 r 1 2 r 2 9 d 1 2")
	for crew := 1; crew <= api.MaxCrew; crew++ {
		for _, many := range []int{0, 1, 2, crew - 1, crew, crew + 1, 3 * crew, 50} {
			sources := numbered(many)
			expectFarm(t, crew, sources, plenty, l, oneByOne(sources, plenty, l))
		}
		told, e := world.Farm(crew, numbered(5), plenty, l)
		var got []string
		for _, s := range told {
			got = append(got, brief(s))
		}
		if want := "1 ended, 2 ready [0] 1/1, 1>2 1, [0]; 1 ended, 2 ready [1] 1/1, 1>2 1, [1]; []; 1 ended, 2 ready [3] 1/1, 1>2 1, [3]; 1 ended, 2 ready [4] 1/1, 1>2 1, [4]"; e != api.OK || strings.Join(got, "; ") != want {
			t.Errorf("P1904 Farm of %d: %v, %q; want %s", crew, e, got, want)
		}
	}
}

// A crew that may not be is refused, whatever else is handed in.
func TestP1904Crew(t *testing.T) {
	for _, crew := range append([]int{0, api.MaxCrew + 1, 16, 1 << 20}, beyond...) {
		for _, sources := range [][]string{nil, {}, {""}, numbered(9)} {
			for _, l := range [][]api.Step{nil, make([]api.Step, api.MaxSteps+1)} {
				for _, c := range []api.Config{plenty, {}} {
					if told, e := world.Farm(crew, sources, c, l); e != api.ErrArg || len(told) != 0 {
						t.Errorf("P1904 Farm of %d: %d states, %v; want arg", crew, len(told), e)
					}
				}
			}
		}
	}
}

// Where Run refuses each source there is a state without anything for each.
func TestP1904Refused(t *testing.T) {
	many := make([]api.Step, api.MaxSteps+1)
	for crew := 1; crew <= api.MaxCrew; crew++ {
		sources := append(numbered(4), "", "-module(m). f() -> 1.", "\x00")
		want := slices.Repeat([]string{all(api.State{})}, len(sources))
		expectFarm(t, crew, sources, plenty, many, want)
		expectFarm(t, crew, sources, api.Config{}, nil, want)
		expectFarm(t, crew, []string{"", "", ""}, plenty, nil, want[:3])
		expectFarm(t, crew, nil, plenty, nil, nil)
		expectFarm(t, crew, nil, api.Config{}, many, nil)
	}
	sources := numbered(2)
	expectFarm(t, 2, sources, plenty, many[1:], oneByOne(sources, plenty, nil))
}

// The same source twice is played twice: what one does the other one knows nothing of.
func TestP1904Same(t *testing.T) {
	source := mainly("register(here, self()), out(make_ref()), out(spawn(" + waits + ")), self() ! a, receive a -> 1 end")
	l := steps(t, "r 1 99 d 1 1 r 1 99")
	for crew := 1; crew <= api.MaxCrew; crew++ {
		sources := slices.Repeat([]string{source}, 20)
		expectFarm(t, crew, sources, plenty, l, oneByOne(sources, plenty, l))
	}
}

// Long and short sources end in another order than they begin; that is not to be seen, however often it is asked, whatever the crew is (T10).
func TestP1904Often(t *testing.T) {
	var sources []string
	for i := range 12 {
		sources = append(sources, mainly(fmt.Sprintf("f(%d), out(%d)", 200*(i*7%12), i), "f(0) -> 0; f(N) -> f(N - 1)."))
	}
	l := []api.Step{run(1, api.MaxFuel)}
	want := oneByOne(sources, plenty, l)
	for range 10 {
		for crew := 1; crew <= api.MaxCrew; crew++ {
			expectFarm(t, crew, sources, plenty, l, want)
		}
	}
}

func TestP1904ByChance(t *testing.T) {
	r := newChance(1904)
	for range 150 {
		var sources []string
		for range r.Intn(15) {
			sources = append(sources, r.of(r.source(), r.source(), r.source(), talk, "", "-module(m). main() -> X."))
		}
		c, l := r.config(), r.script(60)
		want := oneByOne(sources, c, l)
		for range 3 {
			expectFarm(t, 1+r.Intn(api.MaxCrew), sources, c, l, want)
		}
	}
}

// As many goroutines as the crew has play sources, and no more; none is left behind.
func TestP1904Goroutines(t *testing.T) {
	source := mainly("f(4000)", "f(0) -> 0; f(N) -> f(N - 1).")
	for crew := 1; crew <= api.MaxCrew; crew++ {
		for _, many := range []int{1, 3 * crew} {
			most := 0
			for try := 0; try < 50 && most < crew; try++ {
				most = max(most, watched(func() {
					world.Farm(crew, slices.Repeat([]string{source}, many), plenty, []api.Step{run(1, api.MaxFuel)})
				}))
				expectNoHands(t)
			}
			if most != crew {
				t.Errorf("P1904 Farm of %d and %d sources: %d goroutines", crew, many, most)
			}
		}
	}
}

// watched does something in a goroutine, and tells how many the package had at most meanwhile.
func watched(do func()) int {
	done := make(chan int)
	go func() {
		do()
		close(done)
	}()
	most, room := 0, make([]byte, 1<<20)
	for {
		select {
		case <-done:
			return most
		default:
			most = max(most, countHands(room))
		}
	}
}

// countHands tells how many goroutines there are that the package began, by a text for which it is handed room: so it asks at once.
func countHands(room []byte) int {
	return strings.Count(string(room[:runtime.Stack(room, true)]), "created by exitwave/world.")
}

// expectNoHands waits a little: a goroutine that has done all may still be about to go.
func expectNoHands(t *testing.T) {
	t.Helper()
	room := make([]byte, 1<<20)
	for range 1000 {
		if countHands(room) == 0 {
			return
		}
		time.Sleep(time.Millisecond)
	}
	t.Fatalf("P1904: %d goroutines are left behind", countHands(room))
}

// All have ended when the call answers. A goroutine that has done all may still be about to go, so it is asked often: mostly there is none.
func TestP1904Ended(t *testing.T) {
	room := make([]byte, 1<<20)
	for _, many := range []int{0, 3, 20} {
		sources, none := numbered(many), 0
		for range 200 {
			world.Farm(api.MaxCrew, sources, plenty, nil)
			if countHands(room) == 0 {
				none++
			}
		}
		if none < 100 {
			t.Errorf("P1904 Farm of %d sources: behind %d of 200 calls goroutines were left", many, 200-none)
		}
	}
}
