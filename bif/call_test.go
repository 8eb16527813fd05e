package bif_test

import (
	"math/rand"
	"slices"
	"strconv"
	"strings"
	"testing"

	"exitwave/api"
	"exitwave/bif"
)

// agreesCall asks a builtin, and the oracle.
func agreesCall(t *testing.T, name string, l ...api.Term) {
	t.Helper()
	var want api.Term
	var wantE api.Errno
	switch len(l) {
	case 1:
		want, wantE = builtin(name, l[0])
	case 2:
		want, wantE = builtinOfTwo(name, l[0], l[1])
	case 3:
		want, wantE = setElement(l[0], l[1], l[2])
	}
	got, e := askCall(t, name, l...)
	expectSame(t, "P902", name, l, got, e, want, wantE)
}

// Each builtin with each kind of term in each place.
func TestP902Kinds(t *testing.T) {
	places := []api.Term{whole(0), whole(1), whole(3), float(1), atom("a"), list(whole(1))}
	values := []api.Term{whole(7), float(7), atom("a"), ref(1), fun(1), pid(1), tuple(), list(), list(float(1))}
	for _, a := range kinds() {
		for _, name := range ofOne() {
			agreesCall(t, name, a)
		}
		for _, b := range kinds() {
			for _, name := range ofTwo() {
				agreesCall(t, name, a, b)
			}
			for _, x := range values {
				agreesCall(t, ofThree, a, b, x)
			}
			for _, n := range places {
				agreesCall(t, ofThree, n, a, b)
			}
		}
	}
}

func TestP902Numbers(t *testing.T) {
	for _, a := range numbers() {
		for _, name := range ofOne() {
			agreesCall(t, name, a)
		}
		for _, b := range numbers() {
			agreesCall(t, "min", a, b)
			agreesCall(t, "max", a, b)
			agreesCall(t, "member", a, list(b, list(a), a))
			agreesCall(t, "member", a, list(b))
			agreesCall(t, "sort", list(a, b))
		}
	}
}

func TestP902ByChance(t *testing.T) {
	r := rand.New(rand.NewSource(902))
	for range 20000 {
		a, b := someTerm(r, 2), someTerm(r, 3)
		agreesCall(t, ofOne()[r.Intn(len(ofOne()))], b)
		agreesCall(t, ofTwo()[r.Intn(len(ofTwo()))], a, b)
		place := whole(int64(r.Intn(6)))
		agreesCall(t, []string{"element", "nth"}[r.Intn(2)], place, b)
		agreesCall(t, ofThree, place, b, a)
		if len(b.L) > 0 {
			agreesCall(t, "member", b.L[r.Intn(len(b.L))], b)
		}
	}
}

func TestP902Rounding(t *testing.T) {
	expectCall(t, whole(7), "abs", whole(-7))
	expectCall(t, whole(api.MaxInt), "abs", whole(-api.MaxInt))
	refusesCall(t, api.ErrLimit, "abs", whole(api.MinInt))
	expectCall(t, float(0), "abs", float(minus))
	expectCall(t, float(1.5), "abs", float(-1.5))
	refusesCall(t, api.ErrBad, "abs", atom("a"))
	refusesCall(t, api.ErrBad, "abs", text("1"))
	expectCall(t, float(7), "float", whole(7))
	expectCall(t, float(0), "float", whole(0))
	expectCall(t, float(minus), "float", float(minus))
	expectCall(t, float(0x1p59), "float", whole(api.MaxInt))
	refusesCall(t, api.ErrBad, "float", atom("a"))
	for _, c := range []struct {
		f                         float64
		trunc, round, floor, ceil int64
	}{{2.5, 2, 3, 2, 3}, {-2.5, -2, -3, -3, -2}, {0.49999999999999994, 0, 0, 0, 1}, {-0.5, 0, -1, -1, 0}, {minus, 0, 0, 0, 0}, {2, 2, 2, 2, 2}, {-0x1p59, api.MinInt, api.MinInt, api.MinInt, api.MinInt}} {
		expectCall(t, whole(c.trunc), "trunc", float(c.f))
		expectCall(t, whole(c.round), "round", float(c.f))
		expectCall(t, whole(c.floor), "floor", float(c.f))
		expectCall(t, whole(c.ceil), "ceil", float(c.f))
	}
	for _, name := range []string{"trunc", "round", "floor", "ceil"} {
		expectCall(t, whole(api.MinInt), name, whole(api.MinInt))
		refusesCall(t, api.ErrLimit, name, float(0x1p59))
		refusesCall(t, api.ErrLimit, name, float(-1e300))
		refusesCall(t, api.ErrBad, name, atom("1"))
		refusesCall(t, api.ErrBad, name, tuple(float(1)))
	}
}

// Places: the first, the last, 0, one behind the last, below 0, a float.
func TestP902Places(t *testing.T) {
	abc := []api.Term{atom("a"), tuple(atom("b")), list(whole(3))}
	for n := int64(-2); n < 6; n++ {
		if n < 1 || n > 3 {
			refusesCall(t, api.ErrBad, "element", whole(n), tuple(abc...))
			refusesCall(t, api.ErrBad, "nth", whole(n), list(abc...))
			refusesCall(t, api.ErrBad, "setelement", whole(n), tuple(abc...), whole(1))
			continue
		}
		expectCall(t, abc[n-1], "element", whole(n), tuple(abc...))
		expectCall(t, abc[n-1], "nth", whole(n), list(abc...))
		l := slices.Clone(abc)
		l[n-1] = list(atom("x"))
		expectCall(t, tuple(l...), "setelement", whole(n), tuple(abc...), list(atom("x")))
	}
	for _, n := range []api.Term{float(1), float(1.5), atom("1"), text("1"), whole(api.MaxInt), whole(api.MinInt), whole(1 << 32), whole(1<<32 + 1)} {
		refusesCall(t, api.ErrBad, "element", n, tuple(abc...))
		refusesCall(t, api.ErrBad, "nth", n, list(abc...))
		refusesCall(t, api.ErrBad, "setelement", n, tuple(abc...), whole(1))
	}
	for _, n := range []int64{0, 1} {
		refusesCall(t, api.ErrBad, "element", whole(n), tuple())
		refusesCall(t, api.ErrBad, "nth", whole(n), list())
		refusesCall(t, api.ErrBad, "setelement", whole(n), tuple(), whole(1))
	}
	refusesCall(t, api.ErrBad, "element", whole(1), list(abc...))
	refusesCall(t, api.ErrBad, "nth", whole(1), tuple(abc...))
	refusesCall(t, api.ErrBad, "setelement", whole(1), list(abc...), whole(1))
	refusesCall(t, api.ErrBad, "element", whole(1), fun(1, abc...))
	refusesCall(t, api.ErrBad, "element", tuple(abc...), whole(1))
	long := tuple(times(api.MaxWords-1, whole(1))...)
	expectCall(t, whole(1), "element", whole(api.MaxWords-1), long)
	refusesCall(t, api.ErrBad, "element", whole(api.MaxWords), long)
	wide := list(append(times(api.MaxWords/2-1, whole(1)), whole(2))...)
	expectCall(t, whole(2), "nth", whole(api.MaxWords/2), wide)
	refusesCall(t, api.ErrBad, "nth", whole(api.MaxWords/2+1), wide)
}

func TestP902Parts(t *testing.T) {
	ab := list(atom("a"), list(atom("b")))
	expectCall(t, atom("a"), "hd", ab)
	expectCall(t, list(list(atom("b"))), "tl", ab)
	expectCall(t, list(), "tl", list(whole(1)))
	expectCall(t, whole(2), "length", ab)
	expectCall(t, whole(0), "length", list())
	expectCall(t, whole(0), "tuple_size", tuple())
	expectCall(t, whole(2), "tuple_size", tuple(ab.L...))
	for _, name := range []string{"hd", "tl", "length"} {
		refusesCall(t, api.ErrBad, name, tuple(whole(1)))
		refusesCall(t, api.ErrBad, name, atom("a"))
		refusesCall(t, api.ErrBad, name, fun(1, whole(1)))
	}
	refusesCall(t, api.ErrBad, "hd", list())
	refusesCall(t, api.ErrBad, "tl", list())
	refusesCall(t, api.ErrBad, "tuple_size", list(whole(1)))
	refusesCall(t, api.ErrBad, "tuple_size", fun(1, whole(1)))
	long := list(times(api.MaxWords/2, whole(1))...)
	expectCall(t, whole(api.MaxWords/2), "length", long)
	expectCall(t, list(long.L[1:]...), "tl", long)
	deep := nested(api.KList, api.MaxDepth-1, whole(1))
	expectCall(t, deep.L[0], "hd", deep)
}

func TestP902Tests(t *testing.T) {
	samples := map[string]api.Term{
		"is_integer": whole(1), "is_float": float(1), "is_atom": atom("a"), "is_reference": ref(1), "is_function": fun(1), "is_pid": pid(1), "is_tuple": tuple(), "is_list": list(),
	}
	for name := range samples {
		for kind, x := range samples {
			expectCall(t, truth(kind == name), name, x)
		}
	}
	for kind, x := range samples {
		expectCall(t, truth(kind == "is_integer" || kind == "is_float"), "is_number", x)
		expectCall(t, atom("false"), "is_boolean", x)
	}
	expectCall(t, atom("true"), "is_boolean", atom("true"))
	expectCall(t, atom("true"), "is_boolean", atom("false"))
	expectCall(t, atom("true"), "is_atom", atom("true"))
	expectCall(t, atom("false"), "is_boolean", atom("True"))
	expectCall(t, atom("false"), "is_boolean", text("true"))
}

// Funs with as many arguments as asked and with others.
func TestP902IsFunction(t *testing.T) {
	for n := range int64(20) {
		for m := range int64(20) {
			expectCall(t, truth(n == m), "is_function", fun(n), whole(m))
			expectCall(t, truth(n == m), "is_function", fun(n, float(1), list(whole(m))), whole(m))
		}
		expectCall(t, atom("false"), "is_function", whole(n), whole(n))
		expectCall(t, atom("false"), "is_function", tuple(), whole(n))
		expectCall(t, atom("false"), "is_function", fun(n), whole(api.MaxInt))
		expectCall(t, atom("false"), "is_function", fun(n), whole(1<<32+n))
		for _, x := range []api.Term{whole(-1), whole(api.MinInt), float(float64(n)), atom("1"), list(), fun(n)} {
			refusesCall(t, api.ErrBad, "is_function", fun(n), x)
			refusesCall(t, api.ErrBad, "is_function", whole(1), x)
		}
	}
}

// What arity tells is what counts, and it is asked of the fun that was handed in.
func TestP902Arity(t *testing.T) {
	f := fun(3, list(atom("a"), float(minus)))
	for _, n := range []int64{0, 1, 2, 16, 1 << 20, api.MaxInt} {
		for _, told := range []int{-1, 0, 1, 2, 16, 1 << 20, api.MaxInt, -1 << 63, 1<<63 - 1} {
			asked := 0
			x, e := bif.Call("is_function", []api.Term{f, whole(n)}, func(g api.Term) int {
				asked++
				if !alike(f, g) {
					t.Errorf("P902: arity is asked of %s", said(g))
				}
				return told
			})
			if e != api.OK || !alike(x, truth(int64(told) == n)) || asked == 0 {
				t.Errorf("P902 is_function(F, %d), which takes %d: %s %v", n, told, said(x), e)
			}
		}
	}
}

// A panic of arity is none of the package's: it is not told as an error of the program.
func TestP902ArityPanics(t *testing.T) {
	defer func() {
		if r := recover(); r != "mine" {
			t.Errorf("recovered: %v", r)
		}
	}()
	x, e := bif.Call("is_function", []api.Term{fun(1), whole(1)}, func(api.Term) int { panic("mine") })
	t.Errorf("told: %s %v", said(x), e)
}

// The first one, if neither is below the other.
func TestP902MinMax(t *testing.T) {
	expectCall(t, whole(1), "min", whole(1), whole(2))
	expectCall(t, whole(1), "min", whole(2), whole(1))
	expectCall(t, whole(2), "max", whole(1), whole(2))
	expectCall(t, whole(2), "max", whole(2), whole(1))
	for _, name := range []string{"min", "max"} {
		expectCall(t, whole(1), name, whole(1), float(1))
		expectCall(t, float(1), name, float(1), whole(1))
		expectCall(t, float(minus), name, float(minus), float(0))
		expectCall(t, float(0), name, float(0), float(minus))
		expectCall(t, list(float(1), whole(2)), name, list(float(1), whole(2)), list(whole(1), float(2)))
	}
	expectCall(t, atom("a"), "min", tuple(), atom("a"))
	expectCall(t, list(), "max", list(), tuple(whole(1)))
	long := list(times(api.MaxWords/2, whole(1))...)
	expectCall(t, long, "max", long, list(whole(1)))
	expectCall(t, long, "min", list(whole(2)), long)
}

func TestP902SetElement(t *testing.T) {
	expectCall(t, tuple(atom("x")), "setelement", whole(1), tuple(whole(1)), atom("x"))
	const most = api.MaxWords - 1
	full := times(most, whole(1))
	for _, n := range []int64{1, 2, most / 2, most} {
		l := slices.Clone(full)
		l[n-1] = whole(2)
		expectCall(t, tuple(l...), "setelement", whole(n), tuple(full...), whole(2))
		l[n-1] = list()
		expectCall(t, tuple(l...), "setelement", whole(n), tuple(full...), list())
		for _, x := range []api.Term{float(1), ref(1), tuple(), list(whole(1)), fun(1)} {
			refusesCall(t, api.ErrLimit, "setelement", whole(n), tuple(full...), x)
		}
	}
	expectCall(t, tuple(append(times(most-3, whole(1)), float(1))...), "setelement", whole(most-2), tuple(full[:most-2]...), float(1))
	refusesCall(t, api.ErrLimit, "setelement", whole(most-2), tuple(full[:most-1]...), float(1))
	refusesCall(t, api.ErrBad, "setelement", whole(most+1), tuple(full...), float(1)) // ahead of the limit
	refusesCall(t, api.ErrBad, "setelement", float(1), tuple(full...), float(1))
	great := list(full[:most/2]...)
	expectCall(t, tuple(whole(1)), "setelement", whole(1), tuple(great), whole(1))
	expectCall(t, tuple(great), "setelement", whole(1), tuple(great), great)
	refusesCall(t, api.ErrLimit, "setelement", whole(2), tuple(great, whole(1)), great)
	deep := nested(api.KTuple, api.MaxDepth-1, whole(1))
	expectCall(t, deep, "setelement", whole(1), tuple(whole(1)), deep.L[0])
	refusesCall(t, api.ErrLimit, "setelement", whole(1), tuple(whole(1)), deep)
	expectCall(t, tuple(whole(1)), "setelement", whole(1), deep, whole(1))
}

func TestP902TuplesLists(t *testing.T) {
	expectCall(t, list(), "tuple_to_list", tuple())
	expectCall(t, tuple(), "list_to_tuple", list())
	expectCall(t, list(whole(1), tuple(whole(2))), "tuple_to_list", tuple(whole(1), tuple(whole(2))))
	expectCall(t, tuple(whole(1), list(whole(2))), "list_to_tuple", list(whole(1), list(whole(2))))
	for _, x := range []api.Term{whole(1), atom("a"), fun(1, whole(1)), pid(1)} {
		refusesCall(t, api.ErrBad, "tuple_to_list", x)
		refusesCall(t, api.ErrBad, "list_to_tuple", x)
	}
	refusesCall(t, api.ErrBad, "tuple_to_list", list(whole(1)))
	refusesCall(t, api.ErrBad, "list_to_tuple", tuple(whole(1)))
	const most = api.MaxWords / 2
	full := times(most, whole(1))
	expectCall(t, list(full...), "tuple_to_list", tuple(full...))
	expectCall(t, tuple(full...), "list_to_tuple", list(full...))
	refusesCall(t, api.ErrLimit, "tuple_to_list", tuple(append(full, whole(1))...))
	refusesCall(t, api.ErrLimit, "tuple_to_list", tuple(times(api.MaxWords-1, whole(1))...))
	one := append(times(most-2, whole(1)), float(1))
	expectCall(t, list(one...), "tuple_to_list", tuple(one...))
	refusesCall(t, api.ErrLimit, "tuple_to_list", tuple(append(one, whole(1))...))
	deep := nested(api.KTuple, api.MaxDepth-1, whole(1))
	expectCall(t, list(deep.L[0]), "tuple_to_list", deep)
}

func TestP902Sort(t *testing.T) {
	expectCall(t, list(), "sort", list())
	expectCall(t, list(), "reverse", list())
	expectCall(t, list(whole(3), whole(2), whole(1)), "reverse", list(whole(1), whole(2), whole(3)))
	expectCall(t, list(whole(1), whole(2), whole(2), whole(3)), "sort", list(whole(2), whole(3), whole(1), whole(2)))
	expectCall(t, list(float(1), whole(1), float(minus+1), whole(2)), "sort", list(whole(2), float(1), whole(1), float(1)))
	expectCall(t, list(float(0), float(minus), whole(0), atom("a")), "sort", list(atom("a"), float(0), float(minus), whole(0)))
	expectCall(t, list(float(minus), whole(0), float(0)), "sort", list(float(minus), whole(0), float(0)))
	expectCall(t, list(whole(1), atom("a"), ref(0), fun(0), pid(0), tuple(), list()), "sort", list(list(), tuple(), pid(0), fun(0), ref(0), atom("a"), whole(1)))
	for _, x := range []api.Term{tuple(whole(2), whole(1)), atom("a"), whole(1), fun(1, whole(1))} {
		refusesCall(t, api.ErrBad, "sort", x)
		refusesCall(t, api.ErrBad, "reverse", x)
	}
	long := list(times(api.MaxWords/2, whole(1))...)
	expectCall(t, long, "sort", long)
	expectCall(t, long, "reverse", long)
}

// Equal terms stay as they stood: each list of these has a mark inside by which they are told apart, and is equal to the others.
func TestP902SortStable(t *testing.T) {
	r := rand.New(rand.NewSource(9020))
	marks := []api.Term{whole(0), float(0), float(minus)}
	for n := range 120 {
		var l []api.Term
		for range n * n / 20 {
			l = append(l, tuple(whole(int64(r.Intn(1+n/8))), marks[r.Intn(3)]))
		}
		agreesCall(t, "sort", list(l...))
		agreesCall(t, "reverse", list(l...))
	}
}

func TestP902Member(t *testing.T) {
	l := list(whole(1), float(2), list(whole(3)), atom("a"), float(minus), tuple())
	for _, x := range l.L {
		expectCall(t, atom("true"), "member", x, l)
	}
	for _, x := range []api.Term{float(1), whole(2), list(float(3)), whole(3), atom("b"), float(0), whole(0), list(), atom(""), tuple(whole(1)), l} {
		expectCall(t, atom("false"), "member", x, l)
	}
	expectCall(t, atom("false"), "member", whole(1), list())
	expectCall(t, atom("false"), "member", list(), list())
	expectCall(t, atom("true"), "member", list(), list(list()))
	refusesCall(t, api.ErrBad, "member", whole(1), tuple(whole(1)))
	refusesCall(t, api.ErrBad, "member", list(whole(1)), whole(1))
	refusesCall(t, api.ErrBad, "member", whole(1), fun(1, whole(1)))
	great := tuple(list(times(api.MaxWords/2-4, whole(1))...))
	small := times(api.MaxWords/4, tuple(whole(1)))
	expectCall(t, atom("false"), "member", great, list(small...))
	expectCall(t, atom("true"), "member", great, list(great))
	expectCall(t, atom("true"), "member", tuple(whole(1)), list(small...))
}

func TestP902Size(t *testing.T) {
	for _, c := range []struct {
		x    api.Term
		want int64
	}{
		{whole(1), 0}, {atom("a"), 0}, {pid(1), 0}, {list(), 0}, {float(1), 2}, {ref(1), 2}, {tuple(), 1}, {tuple(whole(1)), 2}, {tuple(float(1)), 4}, {list(whole(1)), 2}, {list(list(), float(1)), 6}, {fun(1), 2}, {fun(1, ref(1)), 5},
		{tuple(atom("a"), list(whole(1), float(2))), 9}, {list(times(api.MaxWords/2, whole(1))...), api.MaxWords}, {tuple(times(api.MaxWords-1, whole(1))...), api.MaxWords}, {nested(api.KList, api.MaxDepth-1, whole(1)), 2*api.MaxDepth - 2},
	} {
		expectCall(t, whole(c.want), "size", c.x)
	}
}

// Atoms of as many bytes as may be, and of one more; bytes that are none.
func TestP902Atoms(t *testing.T) {
	var every string
	for i := range 256 {
		every += string([]byte{byte(i)})
	}
	for n := range api.MaxAtom + 1 {
		s := every[3*n : 4*n]
		expectCall(t, text(s), "atom_to_list", atom(s))
		expectCall(t, atom(s), "list_to_atom", text(s))
	}
	expectCall(t, list(), "atom_to_list", atom(""))
	expectCall(t, atom(""), "list_to_atom", list())
	expectCall(t, atom("\xff\x00"), "list_to_atom", list(whole(255), whole(0)))
	most := strings.Repeat("\xc3", api.MaxAtom)
	expectCall(t, text(most), "atom_to_list", atom(most))
	expectCall(t, atom(most), "list_to_atom", text(most))
	refusesCall(t, api.ErrLimit, "list_to_atom", text(most+"a"))
	refusesCall(t, api.ErrLimit, "list_to_atom", list(times(api.MaxWords/2, whole(0))...))
	for _, x := range []api.Term{whole(256), whole(-1), whole(api.MinInt), whole(256 + 97), whole(1<<32 + 97), float(97), atom("a"), list(), text("a")} {
		refusesCall(t, api.ErrBad, "list_to_atom", list(x))
		refusesCall(t, api.ErrBad, "list_to_atom", list(whole(97), x))
		refusesCall(t, api.ErrBad, "list_to_atom", list(x, whole(97)))
		refusesCall(t, api.ErrBad, "list_to_atom", list(append(text(most+most).L, x)...)) // ahead of the limit
	}
	for _, x := range []api.Term{whole(97), tuple(whole(97)), atom("a"), fun(1, whole(97))} {
		refusesCall(t, api.ErrBad, "list_to_atom", x)
	}
	for _, x := range []api.Term{whole(97), text("a"), list(), tuple(), float(1), pid(1)} {
		refusesCall(t, api.ErrBad, "atom_to_list", x)
	}
}

// Texts of numbers: noughts ahead, a sign alone, nothing.
func TestP902Integers(t *testing.T) {
	for _, c := range []struct {
		s string
		n int64
	}{
		{"0", 0}, {"7", 7}, {"-7", -7}, {"-0", 0}, {"000", 0}, {"-000", 0}, {"-007", -7}, {"0123456789", 123456789},
		{"576460752303423487", api.MaxInt}, {"-576460752303423488", api.MinInt}, {"000576460752303423487", api.MaxInt}, {"-0000000000000000000000000000576460752303423488", api.MinInt},
		{strings.Repeat("0", 32767) + "5", 5}, {"-" + strings.Repeat("0", 32766) + "5", -5},
	} {
		expectCall(t, whole(c.n), "list_to_integer", text(c.s))
		expectCall(t, text(strconv.FormatInt(c.n, 10)), "integer_to_list", whole(c.n))
	}
	for _, s := range []string{"576460752303423488", "-576460752303423489", "9223372036854775807", "9223372036854775808", "-9223372036854775808", "-9223372036854775809", "18446744073709551616", "18446744073709551623", strings.Repeat("9", 32768), "-1" + strings.Repeat("0", 100), "1" + strings.Repeat("0", 20)} {
		refusesCall(t, api.ErrLimit, "list_to_integer", text(s))
	}
	for _, s := range []string{"", "-", "+", "+7", "--7", "7-", "-7-", "- 7", " 7", "7 ", "7\n", "1_0", "0x1f", "1.5", "1e3", "a", "7a", "a7", "/", ":", "\x00", "\xff7", "٧", "#7", strings.Repeat("9", 100) + "a", "-" + strings.Repeat("9", 100) + "-"} {
		refusesCall(t, api.ErrBad, "list_to_integer", text(s))
	}
	for _, x := range []api.Term{whole(7), atom("7"), float(7), tuple(whole(55)), list(whole(7)), list(float(55)), list(text("7")), list(whole(256 + 55)), list(whole(55), atom("7")), list(whole(55), whole(-1))} {
		refusesCall(t, api.ErrBad, "list_to_integer", x)
	}
	for _, x := range []api.Term{float(7), atom("7"), text("7"), list(), tuple(), pid(7), ref(7)} {
		refusesCall(t, api.ErrBad, "integer_to_list", x)
	}
}

// Sixteen digits, which may be no finite float.
func TestP902Bits(t *testing.T) {
	for _, c := range []struct {
		s string
		f float64
	}{
		{"3ff8000000000000", 1.5}, {"0000000000000000", 0}, {"8000000000000000", minus}, {"7fefffffffffffff", 0x1.fffffffffffffp1023}, {"ffefffffffffffff", -0x1.fffffffffffffp1023}, {"0000000000000001", 0x1p-1074}, {"c000000000000000", -2},
	} {
		expectCall(t, float(c.f), "bits", text(c.s))
		expectCall(t, text("#"+c.s), "float_to_list", float(c.f))
	}
	for _, s := range []string{"7ff0000000000000", "fff0000000000000", "7ff0000000000001", "7ff8000000000000", "ffffffffffffffff", "7fffffffffffffff"} {
		refusesCall(t, api.ErrArith, "bits", text(s))
	}
	for _, s := range []string{"", "0", "3ff800000000000", "3ff80000000000000", "3FF8000000000000", "3ff800000000000G", "3ff800000000000g", "g000000000000000", "3ff8000000000-00", "-ff8000000000000", "+ff8000000000000", "0x3ff80000000000", "3ff8_00000000000", " 3ff800000000000", "3ff800000000000 ", "#3ff800000000000", "#3ff8000000000000", "`000000000000000", "000000000000000:", "00000000/0000000", "7ff000000000000A", strings.Repeat("0", 32), "7ff0000000000000\x00", "\xff000000000000000"} {
		refusesCall(t, api.ErrBad, "bits", text(s))
	}
	for _, x := range []api.Term{whole(0), atom("3ff8000000000000"), float(1.5), tuple(text("3ff8000000000000").L...), list(times(16, whole(0))...), list(times(16, float(48))...), list(times(16, whole(256+48))...), list(append(times(15, whole(48)), atom("0"))...)} {
		refusesCall(t, api.ErrBad, "bits", x)
	}
	for _, x := range []api.Term{whole(1), atom("1"), text("1"), list(), tuple(float(1))} {
		refusesCall(t, api.ErrBad, "float_to_list", x)
	}
}
