package bif_test

import (
	"encoding/binary"
	"encoding/hex"
	"math"
	"math/big"
	"regexp"
	"slices"
	"strings"

	"exitwave/api"
)

// What operators and builtins must tell, by other means than the program's: wholes by big numbers, the order by exact fractions, texts by regular expressions.

func isNumber(x api.Term) bool { return x.Kind == api.KInt || x.Kind == api.KFloat }

func isTruth(x api.Term) bool { return x.Kind == api.KAtom && (x.S == "true" || x.S == "false") }

func near(x api.Term) float64 {
	if x.Kind == api.KFloat {
		return x.F
	}
	f, _ := new(big.Float).SetInt64(x.N).Float64()
	return f
}

// fitting tells a big number as a term, if it is a whole number.
func fitting(n *big.Int) (api.Term, api.Errno) {
	if n.Cmp(big.NewInt(api.MaxInt)) > 0 || n.Cmp(big.NewInt(api.MinInt)) < 0 {
		return api.Term{}, api.ErrLimit
	}
	return whole(n.Int64()), api.OK
}

func finite(f float64) (api.Term, api.Errno) {
	if math.IsInf(f, 0) || math.IsNaN(f) {
		return api.Term{}, api.ErrArith
	}
	return float(f), api.OK
}

// bounded tells a term, if it has not too many words, and is not too deep.
func bounded(x api.Term) (api.Term, api.Errno) {
	if wordsOf(x) > api.MaxWords || depthOf(x) > api.MaxDepth {
		return api.Term{}, api.ErrLimit
	}
	return x, api.OK
}

func wordsOf(x api.Term) int {
	n := map[int]int{api.KFloat: 2, api.KRef: 2, api.KTuple: 1 + len(x.L), api.KList: 2 * len(x.L), api.KFun: 2 + len(x.L)}[x.Kind]
	for _, y := range x.L {
		n += wordsOf(y)
	}
	return n
}

func depthOf(x api.Term) int {
	n := 0
	for _, y := range x.L {
		n = max(n, depthOf(y))
	}
	return n + 1
}

func only(is bool, x api.Term) (api.Term, api.Errno) {
	if !is {
		return api.Term{}, api.ErrBad
	}
	return x, api.OK
}

func arithmetic(sign string, a, b api.Term) (api.Term, api.Errno) {
	if !isNumber(a) || !isNumber(b) {
		return api.Term{}, api.ErrArith
	}
	if sign == "div" || sign == "rem" || a.Kind == api.KInt && b.Kind == api.KInt && sign != "/" {
		return wholes(sign, a, b)
	}
	f, g := near(a), near(b)
	switch sign {
	case "+":
		f += g
	case "-":
		f -= g
	case "*":
		f *= g
	case "/":
		if g == 0 {
			return api.Term{}, api.ErrArith
		}
		f /= g
	}
	return finite(f)
}

func wholes(sign string, a, b api.Term) (api.Term, api.Errno) {
	x, y, z := big.NewInt(a.N), big.NewInt(b.N), new(big.Int)
	if (sign == "div" || sign == "rem") && (a.Kind == api.KFloat || b.Kind == api.KFloat || b.N == 0) {
		return api.Term{}, api.ErrArith
	}
	switch sign {
	case "+":
		z.Add(x, y)
	case "-":
		z.Sub(x, y)
	case "*":
		z.Mul(x, y)
	case "div":
		z.Quo(x, y)
	case "rem":
		z.Rem(x, y)
	}
	return fitting(z)
}

func exact(x api.Term) *big.Rat {
	if x.Kind == api.KInt {
		return new(big.Rat).SetInt64(x.N)
	}
	return new(big.Rat).SetFloat64(x.F)
}

func sign(n int) int { return min(max(n, -1), 1) }

// order is W4's.
func order(a, b api.Term) int {
	place := func(x api.Term) int { return []int{0, 0, 0, 1, 2, 3, 4, 5, 6}[x.Kind] }
	switch {
	case place(a) != place(b):
		return sign(place(a) - place(b))
	case isNumber(a):
		return exact(a).Cmp(exact(b))
	case a.Kind == api.KAtom:
		return strings.Compare(a.S, b.S)
	case a.N != b.N:
		return sign(int(a.N - b.N))
	case a.Kind == api.KTuple && len(a.L) != len(b.L):
		return sign(len(a.L) - len(b.L))
	}
	for i := range min(len(a.L), len(b.L)) {
		if c := order(a.L[i], b.L[i]); c != 0 {
			return c
		}
	}
	return sign(len(a.L) - len(b.L))
}

// operator is P901.
func operator(sign string, l []api.Term) (api.Term, api.Errno) {
	a := l[0]
	if len(l) == 1 {
		switch {
		case sign == "not":
			return only(isTruth(a), truth(a.S == "false"))
		case a.Kind == api.KFloat:
			return float(-a.F), api.OK
		case a.Kind == api.KInt:
			return fitting(new(big.Int).Neg(big.NewInt(a.N)))
		}
		return api.Term{}, api.ErrArith
	}
	b := l[1]
	switch sign {
	case "==":
		return truth(order(a, b) == 0), api.OK
	case "/=":
		return truth(order(a, b) != 0), api.OK
	case "=<":
		return truth(order(a, b) != 1), api.OK
	case "<":
		return truth(order(a, b) == -1), api.OK
	case ">=":
		return truth(order(a, b) != -1), api.OK
	case ">":
		return truth(order(a, b) == 1), api.OK
	case "=:=":
		return truth(alike(a, b)), api.OK
	case "=/=":
		return truth(!alike(a, b)), api.OK
	case "++":
		if a.Kind != api.KList || b.Kind != api.KList {
			return api.Term{}, api.ErrBad
		}
		return bounded(list(append(append([]api.Term{}, a.L...), b.L...)...))
	}
	return arithmetic(sign, a, b)
}

// rounded tells a number without its fraction.
func rounded(how string, x api.Term) (api.Term, api.Errno) {
	if !isNumber(x) {
		return api.Term{}, api.ErrBad
	}
	r := exact(x)
	floor := func(r *big.Rat) *big.Int { return new(big.Int).Div(r.Num(), r.Denom()) } // denominators are above 0
	ceil := func(r *big.Rat) *big.Int {
		n := floor(new(big.Rat).Neg(r))
		return n.Neg(n)
	}
	half := big.NewRat(1, 2)
	switch {
	case how == "floor", how == "trunc" && r.Sign() > 0:
		return fitting(floor(r))
	case how == "ceil", how == "trunc":
		return fitting(ceil(r))
	case r.Sign() > 0:
		return fitting(floor(r.Add(r, half)))
	}
	return fitting(ceil(r.Sub(r, half)))
}

// bytesOf tells the text of a list of bytes.
func bytesOf(x api.Term) (string, bool) {
	s := make([]byte, 0, len(x.L))
	for _, y := range x.L {
		if y.Kind != api.KInt || y.N < 0 || y.N > 255 {
			return "", false
		}
		s = append(s, byte(y.N))
	}
	return string(s), x.Kind == api.KList
}

var decimal = regexp.MustCompile(`\A-?[0-9]+\z`)

var sixteen = regexp.MustCompile(`\A[0-9a-f]{16}\z`)

// builtin is P902, of one argument.
func builtin(name string, x api.Term) (api.Term, api.Errno) {
	filled := x.Kind == api.KList && len(x.L) > 0
	switch name {
	case "abs":
		if x.Kind == api.KFloat {
			return float(math.Float64frombits(math.Float64bits(x.F) << 1 >> 1)), api.OK
		}
		if x.Kind != api.KInt {
			return api.Term{}, api.ErrBad
		}
		return fitting(new(big.Int).Abs(big.NewInt(x.N)))
	case "float":
		if !isNumber(x) {
			return api.Term{}, api.ErrBad
		}
		return float(near(x)), api.OK
	case "trunc", "round", "floor", "ceil":
		return rounded(name, x)
	case "hd":
		if !filled {
			return api.Term{}, api.ErrBad
		}
		return x.L[0], api.OK
	case "tl":
		if !filled {
			return api.Term{}, api.ErrBad
		}
		return list(x.L[1:]...), api.OK
	case "length":
		return only(x.Kind == api.KList, whole(int64(len(x.L))))
	case "tuple_size":
		return only(x.Kind == api.KTuple, whole(int64(len(x.L))))
	case "is_boolean":
		return truth(isTruth(x)), api.OK
	}
	if kinds, is := tests()[name]; is {
		return truth(slices.Contains(kinds, x.Kind)), api.OK
	}
	return other(name, x)
}

func tests() map[string][]int {
	return map[string][]int{
		"is_atom": {api.KAtom}, "is_integer": {api.KInt}, "is_float": {api.KFloat}, "is_number": {api.KInt, api.KFloat}, "is_list": {api.KList},
		"is_tuple": {api.KTuple}, "is_pid": {api.KPid}, "is_reference": {api.KRef}, "is_function": {api.KFun},
	}
}

// other is P902, of one argument, of those that may not stand in a guard.
func other(name string, x api.Term) (api.Term, api.Errno) {
	s, isText := bytesOf(x)
	switch name {
	case "tuple_to_list":
		if x.Kind != api.KTuple {
			return api.Term{}, api.ErrBad
		}
		return bounded(list(x.L...))
	case "list_to_tuple":
		if x.Kind != api.KList {
			return api.Term{}, api.ErrBad
		}
		return bounded(tuple(x.L...))
	case "atom_to_list":
		return only(x.Kind == api.KAtom, text(x.S))
	case "list_to_atom":
		if isText && len(s) > api.MaxAtom {
			return api.Term{}, api.ErrLimit
		}
		return only(isText, atom(s))
	case "integer_to_list":
		return only(x.Kind == api.KInt, text(big.NewInt(x.N).String()))
	case "list_to_integer":
		if !isText || !decimal.MatchString(s) {
			return api.Term{}, api.ErrBad
		}
		n, _ := new(big.Int).SetString(s, 10)
		return fitting(n)
	case "float_to_list":
		bits := binary.BigEndian.AppendUint64(nil, math.Float64bits(x.F))
		return only(x.Kind == api.KFloat, text("#"+hex.EncodeToString(bits)))
	case "bits":
		if !isText || !sixteen.MatchString(s) {
			return api.Term{}, api.ErrBad
		}
		bits, _ := hex.DecodeString(s)
		return finite(math.Float64frombits(binary.BigEndian.Uint64(bits)))
	case "reverse":
		var l []api.Term
		for i := len(x.L) - 1; i >= 0; i-- {
			l = append(l, x.L[i])
		}
		return only(x.Kind == api.KList, list(l...))
	case "sort":
		if x.Kind != api.KList {
			return api.Term{}, api.ErrBad
		}
		return list(risen(x.L)...), api.OK
	case "size":
		return whole(int64(wordsOf(x))), api.OK
	}
	return api.Term{}, api.ErrNone
}

// risen puts each term behind all that are not above it.
func risen(l []api.Term) []api.Term {
	var out []api.Term
	for _, x := range l {
		i := len(out)
		for i > 0 && order(out[i-1], x) > 0 {
			i--
		}
		out = slices.Insert(out, i, x)
	}
	return out
}

// builtinOfTwo is P902, of two arguments.
func builtinOfTwo(name string, a, b api.Term) (api.Term, api.Errno) {
	switch name {
	case "element":
		return pick(api.KTuple, a, b)
	case "nth":
		return pick(api.KList, a, b)
	case "is_function":
		return only(b.Kind == api.KInt && b.N >= 0, truth(a.Kind == api.KFun && int64(takes(a)) == b.N))
	case "min":
		if order(b, a) == -1 {
			return b, api.OK
		}
		return a, api.OK
	case "max":
		if order(b, a) == 1 {
			return b, api.OK
		}
		return a, api.OK
	case "member":
		return only(b.Kind == api.KList, truth(slices.ContainsFunc(b.L, func(x api.Term) bool { return alike(x, a) })))
	}
	return api.Term{}, api.ErrNone
}

func pick(kind int, n, x api.Term) (api.Term, api.Errno) {
	if n.Kind != api.KInt || x.Kind != kind || n.N < 1 || n.N > int64(len(x.L)) {
		return api.Term{}, api.ErrBad
	}
	return x.L[n.N-1], api.OK
}

// setElement is P902, of three arguments.
func setElement(n, x, y api.Term) (api.Term, api.Errno) {
	if _, e := pick(api.KTuple, n, x); e != api.OK {
		return api.Term{}, e
	}
	l := append([]api.Term{}, x.L...)
	l[n.N-1] = y
	return bounded(tuple(l...))
}
