package names_test

import (
	"math/rand"
	"runtime"
	"slices"
	"strconv"
	"strings"
	"testing"

	"exitwave/api"
	"exitwave/names"
)

// few are the names that runs by chance go over: some that may be, some that may not.
var few = []string{"a", "b", "c", "d", "e", "f", "undefined", "", strings.Repeat("n", 64), strings.Repeat("n", 65)}

// fewPids: how many pids runs by chance go over, from -1 on.
const fewPids = 9

// step does one call by chance at a registry and at a list, and holds what they answer against each other.
func step(t *testing.T, r *rand.Rand, x *names.Names, l *list) {
	t.Helper()
	name, pid := few[r.Intn(len(few))], r.Intn(fewPids)-1
	switch r.Intn(6) {
	case 0, 1, 2:
		expectRegister(t, x, name, pid, l.register(name, pid))
	case 3:
		expectUnregister(t, x, name, l.unregister(name))
	case 4:
		expectRelease(t, x, pid, l.release(pid))
	default:
		expectAgree(t, x)
	}
}

// expectAgree holds the law of P1703 against what the registry itself tells, over all names and pids of the runs.
func expectAgree(t *testing.T, x *names.Names) {
	t.Helper()
	holders, many := map[int]int{}, 0
	for _, name := range few {
		pid, is := x.Whereis(name)
		if !is {
			continue
		}
		many++
		if holders[pid]++; holders[pid] > 1 {
			t.Errorf("P1703: %d has two names", pid)
		}
		if of, is := x.Of(pid); of != name || !is {
			t.Errorf("P1703: %q is %d's, whose name is %q, %v", name, pid, of, is)
		}
	}
	for pid := -1; pid < fewPids; pid++ {
		name, is := x.Of(pid)
		if is != (holders[pid] == 1) {
			t.Errorf("P1703: %d has a name: %v; %d names are its", pid, is, holders[pid])
		}
		if at, there := x.Whereis(name); is && (at != pid || !there) {
			t.Errorf("P1703: %d has %q, which is %d's, %v", pid, name, at, there)
		}
	}
	if told := x.All(); len(told) != many {
		t.Errorf("P1703: All tells %q; %d names are some process's", told, many)
	}
}

// Runs that are made by chance, held against a list of pairs and against the law behind each step; what was told earlier stays.
func TestP1703ByChance(t *testing.T) {
	r := rand.New(rand.NewSource(1703))
	for range 300 {
		x, l := names.New(), list{}
		told, want := x.All(), l.names()
		for range 150 {
			step(t, r, x, &l)
			expectNames(t, x, l)
			expectAgree(t, x)
			if !slices.Equal(told, want) {
				t.Fatalf("P2: what was told changed later: %q; it was %q", told, want)
			}
			if r.Intn(20) == 0 {
				told, want = x.All(), l.names()
			}
			if t.Failed() {
				return
			}
		}
	}
}

// Every row of five calls over two names and two pids.
func TestP1703EveryRow(t *testing.T) {
	calls := []func(t *testing.T, x *names.Names, l *list){}
	for _, name := range []string{"a", "b"} {
		for pid := 1; pid <= 2; pid++ {
			calls = append(calls, func(t *testing.T, x *names.Names, l *list) {
				expectRegister(t, x, name, pid, l.register(name, pid))
			})
		}
		calls = append(calls, func(t *testing.T, x *names.Names, l *list) { expectUnregister(t, x, name, l.unregister(name)) })
	}
	for pid := 1; pid <= 2; pid++ {
		calls = append(calls, func(t *testing.T, x *names.Names, l *list) { expectRelease(t, x, pid, l.release(pid)) })
	}
	rows := 1
	for range 5 {
		rows *= len(calls)
	}
	for row := range rows {
		x, l := names.New(), list{}
		for left, i := row, 0; i < 5; left, i = left/len(calls), i+1 {
			calls[left%len(calls)](t, x, &l)
			expectNames(t, x, l)
			expectAgree(t, x)
		}
		if t.Failed() {
			t.Fatalf("at row %d", row)
		}
	}
}

// Many names: if each call but All cost as much as there are names, this would not end for minutes.
func TestP1703Many(t *testing.T) {
	const many = 1 << 17
	x := names.New()
	for pid := 1; pid <= many; pid++ {
		expectRegister(t, x, strconv.Itoa(many-pid), pid, api.OK)
	}
	for pid := 1; pid <= many; pid++ {
		expectWhereis(t, x, strconv.Itoa(many-pid), pid)
		expectOf(t, x, pid, strconv.Itoa(many-pid))
	}
	if told := x.All(); len(told) != many || !slices.IsSorted(told) {
		t.Errorf("P1702 All of many: %d", len(told))
	}
	for pid := 2; pid <= many; pid += 2 {
		expectRelease(t, x, pid, true)
		expectUnregister(t, x, strconv.Itoa(many-pid+1), api.OK)
	}
	expectNames(t, x, nil)
}

// What is let go is not kept, however many names there were one behind the other (rule 8 of the language).
func TestP1703NotKept(t *testing.T) {
	x := names.New()
	before := inUse()
	for pid := 1; pid <= 1<<17; pid++ {
		name := strconv.Itoa(pid) + strings.Repeat("k", 50)
		expectRegister(t, x, name, pid, api.OK)
		if pid%2 == 0 {
			expectRelease(t, x, pid, true)
		} else {
			expectUnregister(t, x, name, api.OK)
		}
	}
	if more := inUse() - before; more > 1<<17 {
		t.Errorf("a registry without names keeps %d bytes", more)
	}
	runtime.KeepAlive(x)
}

// The same calls in the same order answer the same (P3).
func TestP1703Again(t *testing.T) {
	run := func() []string {
		r := rand.New(rand.NewSource(3))
		x := names.New()
		var heard []string
		for range 2000 {
			e := x.Register(few[r.Intn(len(few))], r.Intn(fewPids)-1)
			x.Release(r.Intn(fewPids) - 1)
			x.Unregister(few[r.Intn(len(few))])
			name, _ := x.Of(r.Intn(fewPids))
			heard = append(append(heard, e.Error(), name), x.All()...)
		}
		return heard
	}
	first := run()
	for range 5 {
		if !slices.Equal(run(), first) {
			t.Fatal("P3: another answer")
		}
	}
}

// Each registry is apart from all others (P7).
func TestP1703Apart(t *testing.T) {
	r := rand.New(rand.NewSource(7))
	x, l := make([]*names.Names, 5), make([]list, 5)
	for i := range x {
		x[i] = names.New()
	}
	for range 2000 {
		i := r.Intn(len(x))
		step(t, r, x[i], &l[i])
		for i := range x {
			expectNames(t, x[i], l[i])
			expectAgree(t, x[i])
		}
		if t.Failed() {
			return
		}
	}
}
