package check_test

import (
	"fmt"
	"math"
	"strings"
	"sync"
	"testing"

	"exitwave/api"
	"exitwave/check"
)

// builtins: the document's tables, a line for each sort of builtins with one number of arguments.
const builtins = `
guard 1 abs float trunc round floor ceil hd tl length tuple_size
guard 1 is_atom is_integer is_float is_number is_list is_tuple is_pid is_reference is_function is_boolean
guard 2 element is_function min max
pure 3 setelement
pure 1 tuple_to_list list_to_tuple atom_to_list list_to_atom integer_to_list list_to_integer float_to_list bits reverse sort size
pure 2 member nth
pure 1 exit throw error
asks 0 self make_ref
asks 1 spawn spawn_link spawn_monitor link unlink demonitor unregister whereis is_process_alive out
asks 2 monitor demonitor exit process_flag register
`

// sorts tells the sort of each builtin, by its name and number, `name/number`.
var sorts = sync.OnceValue(func() map[string]string {
	m := map[string]string{}
	for _, line := range strings.Split(strings.TrimSpace(builtins), "\n") {
		words := strings.Fields(line)
		for _, name := range words[2:] {
			m[name+"/"+words[1]] = words[0]
		}
	}
	return m
})

// names tells all names of the tables, and some that are in none.
func names() []string {
	l := []string{"", "f", "send", "andalso", "not", "+", "!", "Hd", "hd ", " hd", "hd tl", "hd/1", "is", "is_", "is_map", "exits", "self\x00", "spawn_", "link_", "true", "process", "throw/1", "demonitor,", "kill", "list", "halt", "\xff"}
	for key := range sorts() {
		l = append(l, key[:strings.Index(key, "/")])
	}
	return l
}

func TestP702Builtin(t *testing.T) {
	all := sorts()
	if len(all) != 38+3+17 {
		t.Fatalf("%d builtins", len(all))
	}
	for _, name := range names() {
		for _, n := range []int{math.MinInt, -2, -1, 0, 1, 2, 3, 4, 5, 16, 17, 255, 256, 257, 258, 1 << 32, 1<<32 + 1, math.MaxInt} {
			sort := all[fmt.Sprintf("%s/%d", name, n)]
			is, guard, asks := check.Builtin(name, n)
			if is != (sort != "") || guard != (sort == "guard") || asks != (sort == "asks") {
				t.Errorf("P702 %q/%d: %v, %v, %v; it is %q", name, n, is, guard, asks, sort)
			}
		}
	}
}

// P701: sources call just those builtins, and guards have just those that may stand there.
func TestP702Sources(t *testing.T) {
	all := sorts()
	for _, name := range names() {
		quoted := "'" + name + "'"
		for n := range 6 {
			arguments := "(" + strings.TrimSuffix(strings.Repeat("1,", n), ",") + ")"
			sort := all[fmt.Sprintf("%s/%d", name, n)]
			if sort != "" {
				expectRight(t, "f(_, _, _, _, _, _) -> "+quoted+arguments+".")
			} else {
				expect(t, api.ErrCall, "f(_, _, _, _, _, _) -> ^"+quoted+arguments+".")
			}
			if sort == "guard" {
				expectRight(t, "f(_, _, _, _, _, _) when "+quoted+arguments+" -> 1.")
			} else {
				expect(t, api.ErrGuard, "f(_, _, _, _, _, _) when ^"+quoted+arguments+" -> 1.")
			}
			expect(t, api.ErrPattern, "f(_, _, _, _, _, ^"+quoted+arguments+") -> 1.")
			expect(t, api.ErrCall, fmt.Sprintf("f(_, _, _, _, _, _) -> ^fun %s/%d.", quoted, n))
		}
	}
}
