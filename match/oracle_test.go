package match_test

import (
	"math"
	"math/big"
	"math/rand"
	"strings"
	"testing"

	"exitwave/api"
)

// told is an expression of a guard, and what it must tell, reckoned beside it as it is written, by other means than the program's: wholes by big numbers, the order by exact fractions.
type told struct {
	text string
	x    api.Term
	ok   bool // it does not raise
}

func value(text string, x api.Term) told { return told{text, x, true} }

func raised(text string) told { return told{text: text} }

func when(text string, ok bool, x api.Term) told {
	if !ok {
		return raised(text)
	}
	return value(text, x)
}

func near(x api.Term) float64 {
	if x.Kind == api.KFloat {
		return x.F
	}
	f, _ := new(big.Float).SetInt64(x.N).Float64()
	return f
}

func isNumber(x api.Term) bool { return x.Kind == api.KInt || x.Kind == api.KFloat }

// fitting tells a big number as a term, if it is a whole number.
func fitting(n *big.Int) (api.Term, bool) {
	if !n.IsInt64() || n.Int64() > api.MaxInt || n.Int64() < api.MinInt {
		return api.Term{}, false
	}
	return whole(n.Int64()), true
}

func bigOf(sign string, a, b *big.Int) (*big.Int, bool) {
	switch sign {
	case "+":
		return new(big.Int).Add(a, b), true
	case "-":
		return new(big.Int).Sub(a, b), true
	case "*":
		return new(big.Int).Mul(a, b), true
	case "div":
		if b.Sign() == 0 {
			return nil, false
		}
		return new(big.Int).Quo(a, b), true
	}
	if b.Sign() == 0 {
		return nil, false
	}
	return new(big.Int).Rem(a, b), true
}

func arithmetic(sign string, a, b api.Term) (api.Term, bool) {
	if !isNumber(a) || !isNumber(b) {
		return api.Term{}, false
	}
	if a.Kind == api.KInt && b.Kind == api.KInt && sign != "/" {
		n, ok := bigOf(sign, big.NewInt(a.N), big.NewInt(b.N))
		if !ok {
			return api.Term{}, false
		}
		return fitting(n)
	}
	f, g := near(a), near(b)
	switch sign {
	case "+":
		f += g
	case "-":
		f -= g
	case "*":
		f *= g
	case "/":
		if g == 0 {
			return api.Term{}, false
		}
		f /= g
	default:
		return api.Term{}, false
	}
	return float(f), !math.IsInf(f, 0) && !math.IsNaN(f)
}

func exact(x api.Term) *big.Rat {
	if x.Kind == api.KInt {
		return new(big.Rat).SetInt64(x.N)
	}
	return new(big.Rat).SetFloat64(x.F)
}

// order is W4's.
func order(a, b api.Term) int {
	place := func(x api.Term) int { return []int{0, 0, 0, 1, 2, 3, 4, 5, 6}[x.Kind] }
	switch {
	case place(a) != place(b):
		return sign(place(a) - place(b))
	case isNumber(a):
		return exact(a).Cmp(exact(b))
	case a.Kind == api.KAtom:
		return strings.Compare(a.S, b.S)
	case a.N != b.N:
		return sign(int(a.N - b.N))
	case a.Kind == api.KTuple && len(a.L) != len(b.L):
		return sign(len(a.L) - len(b.L))
	}
	for i := range min(len(a.L), len(b.L)) {
		if c := order(a.L[i], b.L[i]); c != 0 {
			return c
		}
	}
	return sign(len(a.L) - len(b.L))
}

func sign(n int) int {
	switch {
	case n < 0:
		return -1
	case n > 0:
		return 1
	}
	return 0
}

func isTruth(x api.Term) bool { return x.Kind == api.KAtom && (x.S == "true" || x.S == "false") }

// writer writes expressions by chance, with the variables of e.
type writer struct {
	r *rand.Rand
	e env
}

func (w *writer) one(l ...string) string { return l[w.r.Intn(len(l))] }

func (w *writer) leaf() told {
	if w.r.Intn(3) > 0 {
		name := w.one("A", "B", "C", "D")
		return value(name, w.e[name])
	}
	s := someLiteral(w.r)
	return value(s.text, s.value)
}

func (w *writer) expr(deep int) told {
	if deep == 0 {
		return w.leaf()
	}
	switch w.r.Intn(7) {
	case 0:
		return w.leaf()
	case 1:
		return w.made(deep - 1)
	case 2:
		return w.ofOne(w.expr(deep - 1))
	case 3:
		return w.either(w.expr(deep-1), w.expr(deep-1))
	}
	return w.ofTwo(w.expr(deep-1), w.expr(deep-1))
}

func (w *writer) made(deep int) told {
	var texts []string
	var l []api.Term
	ok := true
	for range 1 + w.r.Intn(3) {
		x := w.expr(deep)
		texts, l, ok = append(texts, x.text), append(l, x.x), ok && x.ok
	}
	inside := strings.Join(texts, ", ")
	switch w.r.Intn(3) {
	case 0:
		return when("{"+inside+"}", ok, tuple(l...))
	case 1:
		return when("["+inside+"]", ok, list(l...))
	}
	rest := w.expr(deep)
	return when("["+inside+" | "+rest.text+"]", ok && rest.ok && rest.x.Kind == api.KList, list(append(l, rest.x.L...)...))
}

func (w *writer) ofOne(x told) told {
	name := w.one("-", "not", "abs", "float", "hd", "tl", "length", "tuple_size", "is_atom", "is_number", "is_list", "is_boolean", "is_function", "trunc")
	text := name + " (" + x.text + ")"
	if !x.ok {
		return raised(text)
	}
	v := x.x
	switch name {
	case "-":
		if v.Kind == api.KFloat {
			return value(text, float(-v.F))
		}
		return when(text, v.Kind == api.KInt && v.N != api.MinInt, whole(-v.N))
	case "not":
		return when(text, isTruth(v), truth(v.S == "false"))
	case "abs":
		if v.Kind == api.KFloat {
			return value(text, float(math.Abs(v.F)))
		}
		return when(text, v.Kind == api.KInt && v.N != api.MinInt, whole(max(v.N, -v.N)))
	case "float":
		if !isNumber(v) {
			return raised(text)
		}
		return value(text, float(near(v)))
	case "trunc":
		if v.Kind == api.KInt {
			return value(text, v)
		}
		if v.Kind != api.KFloat {
			return raised(text)
		}
		n, _ := big.NewFloat(v.F).Int(nil)
		y, ok := fitting(n)
		return when(text, ok, y)
	}
	return ofKind(name, text, v)
}

func ofKind(name, text string, v api.Term) told {
	filled := v.Kind == api.KList && len(v.L) > 0
	switch name {
	case "hd", "tl":
		if !filled {
			return raised(text)
		}
		if name == "hd" {
			return value(text, v.L[0])
		}
		return value(text, list(v.L[1:]...))
	case "length":
		return when(text, v.Kind == api.KList, whole(int64(len(v.L))))
	case "tuple_size":
		return when(text, v.Kind == api.KTuple, whole(int64(len(v.L))))
	case "is_atom":
		return value(text, truth(v.Kind == api.KAtom))
	case "is_number":
		return value(text, truth(isNumber(v)))
	case "is_list":
		return value(text, truth(v.Kind == api.KList))
	case "is_function":
		return value(text, truth(v.Kind == api.KFun))
	}
	return value(text, truth(isTruth(v)))
}

func (w *writer) either(a, b told) told {
	op := w.one("andalso", "orelse")
	text := "(" + a.text + ") " + op + " (" + b.text + ")"
	switch {
	case !a.ok || !isTruth(a.x):
		return raised(text)
	case a.x.S == "true" && op == "orelse", a.x.S == "false" && op == "andalso":
		return value(text, a.x)
	}
	return told{text, b.x, b.ok}
}

func (w *writer) ofTwo(a, b told) told {
	op := w.one("+", "-", "*", "/", "div", "rem", "==", "/=", "=<", "<", ">=", ">", "=:=", "=/=", "++", "min", "max", "element")
	text := "(" + a.text + ") " + op + " (" + b.text + ")"
	if len(op) > 2 && strings.Contains("min max element", op) {
		text = op + "(" + a.text + ", " + b.text + ")"
	}
	if !a.ok || !b.ok {
		return raised(text)
	}
	x, ok := reckoned(op, a.x, b.x)
	return when(text, ok, x)
}

func reckoned(op string, a, b api.Term) (api.Term, bool) {
	c := order(a, b)
	switch op {
	case "==", "/=":
		return truth((c == 0) == (op == "==")), true
	case "=<", ">":
		return truth((c <= 0) == (op == "=<")), true
	case "<", ">=":
		return truth((c < 0) == (op == "<")), true
	case "=:=", "=/=":
		return truth(alike(a, b) == (op == "=:=")), true
	case "++":
		return list(append(append([]api.Term{}, a.L...), b.L...)...), a.Kind == api.KList && b.Kind == api.KList
	case "min", "max":
		if c == 0 || (c < 0) == (op == "min") {
			return a, true
		}
		return b, true
	case "element":
		if a.Kind != api.KInt || b.Kind != api.KTuple || a.N < 1 || a.N > int64(len(b.L)) {
			return api.Term{}, false
		}
		return b.L[a.N-1], true
	}
	return arithmetic(op, a, b)
}

// P803: expressions by chance, and what they tell.
func TestP803ByChance(t *testing.T) {
	r := rand.New(rand.NewSource(803))
	values, raises := 0, 0
	for range rounds {
		w := &writer{r: r, e: env{}}
		for _, name := range []string{"A", "B", "C", "D"} {
			w.e[name] = someTerm(r, 1)
			if r.Intn(2) == 0 {
				w.e[name] = []api.Term{whole(2), atom("true"), atom("false"), float(2), list(whole(1), atom("a")), tuple(whole(1), atom("a"))}[r.Intn(6)]
			}
		}
		x := w.expr(1 + r.Intn(3))
		if x.ok {
			values++
			expectValue(t, x.text, w.e, x.x)
			other := bent(r, x.x)
			expectGuard(t, "("+x.text+") =:= Want", withWant(w.e, other), alike(other, x.x))
		} else {
			raises++
			expectRaise(t, x.text, w.e)
		}
		if t.Failed() {
			return
		}
	}
	if values < rounds/4 || raises < rounds/4 {
		t.Errorf("%d have a value, %d raise: too few", values, raises)
	}
}
