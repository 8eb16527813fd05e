package world_test

import (
	"errors"
	"runtime"
	"testing"

	"exitwave/api"
	"exitwave/world"
)

func expectSettle(t *testing.T, source, script string, fuel, rounds int, calm bool, want string) {
	t.Helper()
	s, is, err := world.Settle(source, plenty, steps(t, script), fuel, rounds)
	expectBrief(t, "P1902 Settle", s, err, want)
	if is != calm {
		t.Errorf("P1902 Settle: calm %v; want %v: %s", is, calm, brief(s))
	}
}

// Round by round: in each all run, then each lane delivers.
func TestP1902Rounds(t *testing.T) {
	for rounds, want := range []string{
		"1 ready, []",
		"1 waiting 2/1, 2 ready [hi] 1/1, []",
		"1 ready [{'EXIT',#Pid2,hi}], 2 ended, [hi]",
		"1 ended, 2 ended, [hi,{'EXIT',#Pid2,hi}]",
		"1 ended, 2 ended, [hi,{'EXIT',#Pid2,hi}]",
	} {
		expectSettle(t, talk, "", 9, rounds, rounds > 2, want)
	}
	// behind a script it goes on from there
	expectSettle(t, talk, "r 1 9 k 2", 9, 1, false, "1 ready [{'EXIT',#Pid2,killed}], 2 ended, []")
	expectSettle(t, talk, "r 1 9 k 2", 9, 2, true, "1 ended, 2 ended, [{'EXIT',#Pid2,killed}]")
}

// Processes that are made within a round run from the next one on.
func TestP1902Made(t *testing.T) {
	source := mainly("out(1), spawn(fun() -> out(2), spawn(fun() -> out(3) end) end)")
	expectSettle(t, source, "", 9, 1, false, "1 ended, 2 ready, [1]")
	expectSettle(t, source, "", 9, 2, false, "1 ended, 2 ended, 3 ready, [1,2]")
	expectSettle(t, source, "", 9, 3, true, "1 ended, 2 ended, 3 ended, [1,2,3]")
}

// Processes run by Pid, each once a round.
func TestP1902ByPid(t *testing.T) {
	source := mainly("s(4), f(1)", "s(0) -> 0; s(N) -> spawn(fun() -> f(N) end), s(N - 1).", "f(N) -> out({self(), N}), f(N + 10).")
	expectSettle(t, source, "r 1 10 r 5 1 r 3 1", 4, 2, false,
		"1 ready, 2 ready, 3 ready, 4 ready, 5 ready, [{#Pid1,1},{#Pid2,4},{#Pid3,3},{#Pid4,2},{#Pid5,1},{#Pid1,11},{#Pid2,14},{#Pid3,13},{#Pid4,12},{#Pid5,11}]")
}

// A lane that comes up as processes run delivers in that round; one that comes up as lanes deliver does not, whether it stands ahead or behind.
func TestP1902Lanes(t *testing.T) {
	expectSettle(t, mainly("self() ! a, receive a -> out(a) end"), "", 9, 1, false, "1 ready [a], []")
	expectSettle(t, mainly("self() ! a, receive a -> out(a) end"), "", 9, 2, true, "1 ended, [a]")
	behind := mainly("unlink(spawn_link(" + waits + ")), receive x -> 1 end")
	expectSettle(t, behind, "", 9, 1, false, "1 waiting 2/2, 2 ready, 2>1 1, []")
	expectSettle(t, behind, "", 9, 2, true, "1 waiting, 2 waiting, []")
	ahead := mainly("M = self(), spawn(fun() -> link(M), unlink(M), receive x -> 1 end end), receive x -> 1 end")
	expectSettle(t, ahead, "r 1 9 r 2 9 d 2 1", 9, 1, false, "1 waiting, 2 waiting 1/2, 1>2 1, []")
	expectSettle(t, ahead, "r 1 9 r 2 9 d 2 1", 9, 2, true, "1 waiting, 2 waiting, []")
}

// A lane delivers one signal a round, however many it has, also where nothing is sent meanwhile.
func TestP1902OneOfEach(t *testing.T) {
	source := mainly("P = spawn(" + waits + "), Q = spawn(" + waits + "), P ! a, P ! b, Q ! c, P ! d, receive x -> 1 end")
	for rounds, want := range []string{
		"1 waiting, 2 ready, 3 ready, 1>2 3, 1>3 1, []",
		"1 waiting, 2 ready [a], 3 ready [c], 1>2 2, []",
		"1 waiting, 2 ready [a,b], 3 waiting [c], 1>2 1, []",
		"1 waiting, 2 ready [a,b,d], 3 waiting [c], []",
		"1 waiting, 2 waiting [a,b,d], 3 waiting [c], []",
	} {
		expectSettle(t, source, "r 1 20", 9, rounds, rounds == 4, want)
	}
}

// Lanes deliver by From, whichever was filled first.
func TestP1902ByFrom(t *testing.T) {
	source := mainly("P = spawn(" + waits + "), S = fun() -> P ! self(), receive x -> 1 end end, spawn(S), spawn(S), S()")
	for _, script := range []string{"r 1 20 r 3 9 r 4 9", "r 1 5 r 4 9 r 3 9", "r 1 4 r 4 9 r 1 9"} {
		expectSettle(t, source, script+" r 2 9", 20, 1, false, "1 waiting, 2 ready [#Pid1,#Pid3,#Pid4], 3 waiting, 4 waiting, []")
	}
}

// Lanes from one process deliver by To: the answer of 1, which is asked first, is made first.
func TestP1902ByTo(t *testing.T) {
	source := mainly("M = self(), A = spawn(fun() -> 1 end), spawn(fun() -> process_flag(trap_exit, true), link(A), link(M), receive x -> 1 end end)")
	expectSettle(t, source, "r 1 9 r 2 9 r 3 9", 9, 1, false, "1 ended, 2 ended, 3 waiting 1/1 2/1, 1>3 1, 2>3 1, []")
	expectSettle(t, source, "r 1 9 r 2 9 r 3 9", 9, 2, false, "1 ended, 2 ended, 3 ready [{'EXIT',#Pid1,noproc},{'EXIT',#Pid2,noproc}], []")
}

// Fuel is that of each run: 1, and as much as may be; an exiting process runs with it, too.
func TestP1902Fuel(t *testing.T) {
	count := "f(0) -> out(0); f(N) -> f(N - 1)."
	expectSettle(t, mainly("f(2)", count), "", 1, 4, false, "1 ready, []")
	expectSettle(t, mainly("f(2)", count), "", 1, 5, true, "1 ended, [0]")
	expectSettle(t, mainly("f(2)", count), "", 3, 1, false, "1 ready, []")
	expectSettle(t, mainly("f(2)", count), "", 3, 2, true, "1 ended, [0]")
	expectSettle(t, mainly("f(65533)", count), "", api.MaxFuel, 1, true, "1 ended, [0]")
	expectSettle(t, mainly("f(65533)", count), "", api.MaxFuel-1, 1, false, "1 ready, []")
	expectSettle(t, mainly("f(65534)", count), "", api.MaxFuel, 1, false, "1 ready, []")
	ends := mainly("A = spawn_link(" + waits + "), B = spawn_link(" + waits + "), receive x -> 1 end")
	expectSettle(t, ends, "r 1 9 r 2 9 r 3 9 k 1", 1, 1, false, "1 exiting 3/1, 2 exiting, 3 waiting 1/1, []")
	expectSettle(t, ends, "r 1 9 r 2 9 r 3 9 k 1", 2, 1, false, "1 ended, 2 exiting, 3 exiting, []")
	expectSettle(t, ends, "r 1 9 r 2 9 r 3 9 k 1", 2, 2, true, "1 ended, 2 ended, 3 ended, []")
}

// Of 0 rounds none is done, of 1000 all of them are.
func TestP1902Bounds(t *testing.T) {
	count := "f(0) -> out(0); f(N) -> f(N - 1)."
	expectSettle(t, mainly("f(0)", count), "", 9, 0, false, "1 ready, []")
	expectSettle(t, mainly("f(997)", count), "", 1, 999, false, "1 ready, []")
	expectSettle(t, mainly("f(997)", count), "", 1, 1000, true, "1 ended, [0]")
	expectSettle(t, mainly("f(998)", count), "", 1, 1000, false, "1 ready, []")
	for _, n := range append([]int{0, api.MaxFuel + 1}, beyond...) {
		expectRefused(t, n, 1)
		expectRefused(t, n, 2000)
	}
	for _, n := range append([]int{1001}, beyond...) {
		expectRefused(t, 1, n)
		expectRefused(t, api.MaxFuel, n)
	}
}

func expectRefused(t *testing.T, fuel, rounds int) {
	t.Helper()
	s, calm, err := world.Settle(mainly("1"), plenty, nil, fuel, rounds)
	if !errors.Is(err, api.ErrArg) || errors.Unwrap(err) != error(api.ErrArg) || err.Error() != "fuel or rounds: arg" || calm || all(s) != all(api.State{}) {
		t.Errorf("P1902 Settle with fuel %d, %d rounds: %s, %v, %v; want one that wraps arg", fuel, rounds, all(s), calm, err)
	}
}

// What is calm: no lane with signals, no process that is ready or exiting.
func TestP1902Calm(t *testing.T) {
	one := mainly("receive x -> 1 end")
	expectSettle(t, one, "", 1, 0, false, "1 ready, []")
	expectSettle(t, one, "r 1 9", 1, 0, true, "1 waiting, []")
	expectSettle(t, one, "r 1 9 k 1", 1, 0, false, "1 exiting, []")
	expectSettle(t, one, "r 1 9 k 1 r 1 0", 1, 0, true, "1 ended, []")
	two := mainly("spawn("+waits+"), f()", "f() -> receive x -> self() ! x, f(); P -> P ! 1, f() end.")
	expectSettle(t, two, "r 1 9", 1, 0, false, "1 waiting, 2 ready, []")
	expectSettle(t, two, "r 1 9 r 2 9", 1, 0, true, "1 waiting, 2 waiting, []")
	expectSettle(t, two, "r 1 9 r 2 9 k 2", 1, 0, false, "1 waiting, 2 exiting, []")
	expectSettle(t, two, "r 1 9 k 2 r 2 0", 1, 0, true, "1 waiting, 2 ended, []")
	expectSettle(t, two, "r 1 9 r 2 9 k 1 k 2 r 1 1 r 2 1", 1, 0, true, "1 ended, 2 ended, []")
	send := mainly("P = spawn(" + waits + "), P ! hi, receive x -> 1 end")
	expectSettle(t, send, "r 1 9 r 2 9", 1, 0, false, "1 waiting, 2 waiting, 1>2 1, []")
	expectSettle(t, send, "r 1 9 k 1 k 2 r 1 1 r 2 1", 1, 0, false, "1 ended, 2 ended, 1>2 1, []")
	expectSettle(t, send, "r 1 9 k 1 k 2 r 1 1 r 2 1", 1, 1, true, "1 ended, 2 ended, []")
}

// Where nothing is left to do further rounds change nothing.
func TestP1902Nothing(t *testing.T) {
	source := mainly("P = spawn_link(" + waits + "), P ! a, monitor(process, P), register(here, self()), out(P), receive x -> 1 end")
	want, calm, err := world.Settle(source, plenty, nil, 9, 3)
	if !calm || err != nil {
		t.Fatalf("P1902: %s, %v, %v", brief(want), calm, err)
	}
	for _, rounds := range []int{4, 5, 100, 1000} {
		if s, calm, err := world.Settle(source, plenty, nil, api.MaxFuel, rounds); !calm || err != nil || all(s) != all(want) {
			t.Errorf("P1902 Settle of %d rounds: %s, %v, %v; want %s", rounds, all(s), calm, err, all(want))
		}
	}
}

// Many signals that wait do not make each round long: where nothing is sent they are not told anew.
func TestP1902Many(t *testing.T) {
	var before, after runtime.MemStats
	c := api.Config{Procs: 2, Refs: 1, Words: 1 << 24}
	source := mainly("P = spawn("+waits+"), s(P), receive x -> 1 end", "s(P) -> case catch (P ! [a, b, c, d]) of [a | _] -> s(P); X -> out(X) end.")
	runtime.ReadMemStats(&before)
	s, calm, err := world.Settle(source, c, []api.Step{run(1, api.MaxFuel), run(1, 9)}, api.MaxFuel, 1000)
	runtime.ReadMemStats(&after)
	if taken := after.TotalAlloc - before.TotalAlloc; taken > 4<<30 {
		t.Errorf("P1902 Settle of 1 << 16 messages took %d bytes", taken)
	}
	if err != nil || calm || len(s.Procs[1].Inbox) != 1000 || len(s.Lanes) != 1 || len(s.Lanes[0].Signals) != 1<<16-1000 || text(s.Out) != "[{'EXIT',system_limit}]" {
		t.Errorf("P1902 Settle of 1 << 16 messages: %d lanes, %s, %v, %v", len(s.Lanes), text(s.Out), calm, err)
	}
}

// Rounds are those of a VM that is asked for its processes and its lanes each time.
func TestP1902ByChance(t *testing.T) {
	r := newChance(1902)
	seen := map[bool]int{}
	for range 4000 {
		source, c, l := r.source(), r.config(), r.script(30)
		fuel, rounds := 1+r.Intn(12), r.Intn(20)
		s, calm, err := world.Settle(source, c, l, fuel, rounds)
		v := played(t, source, c, l)
		is := settled(v, fuel, rounds)
		if want := v.State(); err != nil || calm != is || all(s) != all(want) {
			t.Fatalf("P1902 Settle of %s, %v, fuel %d, %d rounds: %s, %v, %v; want %s, %v", source, l, fuel, rounds, all(s), calm, err, all(want), is)
		}
		seen[calm]++
	}
	if seen[true] < 500 || seen[false] < 500 {
		t.Errorf("runs by chance were calm %d times, and %d times not: too few", seen[true], seen[false])
	}
}
