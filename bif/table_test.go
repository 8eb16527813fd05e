package bif_test

import (
	"fmt"
	"math"
	"strings"
	"testing"

	"exitwave/api"
	"exitwave/bif"
	"exitwave/check"
)

// The document's tables.
const (
	signsOfOne  = "- not"
	signsOfTwo  = "+ - * / div rem == /= =< < >= > =:= =/= ++"
	guardsOfOne = "abs float trunc round floor ceil hd tl length tuple_size is_atom is_integer is_float is_number is_list is_tuple is_pid is_reference is_function is_boolean"
	guardsOfTwo = "element is_function min max"
	othersOfOne = "tuple_to_list list_to_tuple atom_to_list list_to_atom integer_to_list list_to_integer float_to_list bits reverse sort size"
	othersOfTwo = "member nth"
	ofThree     = "setelement"
)

func ofOne() []string { return strings.Fields(guardsOfOne + " " + othersOfOne) }

func ofTwo() []string { return strings.Fields(guardsOfTwo + " " + othersOfTwo) }

// tableOf lays names with a number of arguments into a table, as `name/number`.
func tableOf(names string, n int, into map[string]int) {
	for _, name := range strings.Fields(names) {
		into[fmt.Sprintf("%s/%d", name, n)] = 1
	}
}

func guards() map[string]int {
	m := map[string]int{}
	tableOf(guardsOfOne, 1, m)
	tableOf(guardsOfTwo, 2, m)
	return m
}

func builtins() map[string]int {
	m := guards()
	tableOf(othersOfOne, 1, m)
	tableOf(othersOfTwo, 2, m)
	tableOf(ofThree, 3, m)
	return m
}

func operators() map[string]int {
	m := map[string]int{}
	tableOf(signsOfOne, 1, m)
	tableOf(signsOfTwo, 2, m)
	return m
}

// odd: names that are in no table.
func odd() []string {
	return []string{"", " ", "f", "self", "exit", "throw", "error", "spawn", "link", "make_ref", "send", "andalso", "orelse", "!", "xor", "and", "or", "--", "=", "->", "<=", "=>", "!=", "+ ", " +", "+-", "++ ",
		"Abs", "abs ", " abs", "abs\x00", "abs/1", "hd tl", "is_", "is_map", "is_Atom", "is_binary", "lists", "size ", "append", "list_to_float", "list_to_float ", "integer_to_lis", "integer_to_listt", "sor", "sortt", "nthtail", "element,", "\xff", "notnot", "Not", "DIV"}
}

func allNames() []string {
	return append(odd(), strings.Fields(strings.Join([]string{guardsOfOne, guardsOfTwo, othersOfOne, othersOfTwo, ofThree, signsOfOne, signsOfTwo}, " "))...)
}

func TestP902Is(t *testing.T) {
	all, inGuards := builtins(), guards()
	if len(all) != 38 || len(inGuards) != 24 {
		t.Fatalf("%d builtins, %d of guards", len(all), len(inGuards))
	}
	for _, name := range allNames() {
		for _, n := range []int{math.MinInt, -3, -2, -1, 0, 1, 2, 3, 4, 5, 16, 17, 255, 256, 257, 258, 259, 1 << 32, 1<<32 + 1, 1<<32 + 2, math.MaxInt} {
			key := fmt.Sprintf("%s/%d", name, n)
			for range 2 {
				is, guard := bif.Is(name, n)
				if is != (all[key] == 1) || guard != (inGuards[key] == 1) {
					t.Errorf("P902 Is %q: %v, %v", key, is, guard)
				}
			}
		}
	}
}

// What a source may call is there.
func TestP902Check(t *testing.T) {
	for _, name := range allNames() {
		for n := -1; n < 6; n++ {
			is, guard := bif.Is(name, n)
			known, mayStand, _ := check.Builtin(name, n)
			if is && !known || guard != mayStand {
				t.Errorf("P902 Is %q/%d: %v, %v; a source: %v, %v", name, n, is, guard, known, mayStand)
			}
		}
	}
}

// Names and numbers of arguments that are in no row; those that are tell something else than that there is none.
func TestP901None(t *testing.T) {
	all := operators()
	for _, name := range allNames() {
		for n := range 6 {
			for _, x := range []api.Term{whole(1), atom("true"), list(whole(1)), tuple(whole(1))} {
				got, e := askOp(t, name, times(n, x)...)
				if is := all[fmt.Sprintf("%s/%d", name, n)] == 1; is != (e != api.ErrNone) {
					t.Errorf("P901 Op %q of %d: %s %v", name, n, said(got), e)
				}
			}
		}
		refusesOp(t, api.ErrNone, name)
		refusesOp(t, api.ErrNone, name, times(1000, whole(1))...)
	}
}

func TestP902None(t *testing.T) {
	all := builtins()
	for _, name := range allNames() {
		for n := range 6 {
			for _, x := range []api.Term{whole(1), atom("true"), list(whole(1)), tuple(whole(1)), fun(1)} {
				got, e := askCall(t, name, times(n, x)...)
				if is := all[fmt.Sprintf("%s/%d", name, n)] == 1; is != (e != api.ErrNone) {
					t.Errorf("P902 Call %q of %d: %s %v", name, n, said(got), e)
				}
			}
		}
		refusesCall(t, api.ErrNone, name)
		refusesCall(t, api.ErrNone, name, times(1000, whole(1))...)
	}
}
