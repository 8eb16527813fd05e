package match

import (
	"exitwave/api"
	"exitwave/num"
	"exitwave/term"
)

// The operators and builtins of chapter 9 that a guard may have. They tell parts of what they are given, not copies: nothing of it leaves a guard.

func opOfOne(sign string, x api.Term) (api.Term, bool) {
	switch {
	case sign == "-":
		return told(num.Neg(x))
	case sign == "not" && isBoolean(x):
		return boolean(isAtom(x, "false")), true
	}
	return api.Term{}, false
}

func opOfTwo(sign string, a, b api.Term) (api.Term, bool) {
	switch sign {
	case "==", "/=", "=<", "<", ">=", ">":
		c, e := term.Cmp(a, b)
		return boolean(isOrdered(sign, c)), e == api.OK
	case "=:=", "=/=":
		is, e := term.Same(a, b)
		return boolean(is == (sign == "=:=")), e == api.OK
	case "++":
		return joined(a, b)
	}
	return told(num.Op(sign, a, b))
}

// isOrdered tells whether two terms stand as a sign says, of which Cmp is c.
func isOrdered(sign string, c int) bool {
	switch sign {
	case "==":
		return c == 0
	case "/=":
		return c != 0
	case "=<":
		return c <= 0
	case "<":
		return c < 0
	case ">=":
		return c >= 0
	}
	return c > 0
}

func builtinOfOne(name string, x api.Term) (api.Term, bool) {
	switch name {
	case "abs":
		return told(num.Abs(x))
	case "float":
		return told(num.Real(x))
	case "trunc", "round", "floor", "ceil":
		return told(num.Whole(name, x))
	case "length":
		return count(api.KList, x)
	case "tuple_size":
		return count(api.KTuple, x)
	case "hd", "tl":
		return part(name, x)
	}
	return kindTest(name, x)
}

func count(kind int, x api.Term) (api.Term, bool) {
	if x.Kind != kind {
		return api.Term{}, false
	}
	return told(num.Int(int64(len(x.L))))
}

func part(name string, x api.Term) (api.Term, bool) {
	if x.Kind != api.KList || len(x.L) == 0 {
		return api.Term{}, false
	}
	if name == "hd" {
		return x.L[0], true
	}
	return api.Term{Kind: api.KList, L: x.L[1:]}, true
}

func kindTest(name string, x api.Term) (api.Term, bool) {
	switch name {
	case "is_atom":
		return boolean(x.Kind == api.KAtom), true
	case "is_integer":
		return boolean(x.Kind == api.KInt), true
	case "is_float":
		return boolean(x.Kind == api.KFloat), true
	case "is_number":
		return boolean(x.Kind == api.KInt || x.Kind == api.KFloat), true
	case "is_list":
		return boolean(x.Kind == api.KList), true
	case "is_tuple":
		return boolean(x.Kind == api.KTuple), true
	case "is_pid":
		return boolean(x.Kind == api.KPid), true
	case "is_reference":
		return boolean(x.Kind == api.KRef), true
	case "is_function":
		return boolean(x.Kind == api.KFun), true
	case "is_boolean":
		return boolean(isBoolean(x)), true
	}
	return api.Term{}, false
}

func builtinOfTwo(name string, a, b api.Term) (api.Term, bool) {
	switch name {
	case "element":
		return element(a, b)
	case "min":
		return better("=<", a, b)
	case "max":
		return better(">=", a, b)
	}
	return api.Term{}, false
}

func element(n, x api.Term) (api.Term, bool) {
	if n.Kind != api.KInt || x.Kind != api.KTuple || n.N < 1 || n.N > int64(len(x.L)) {
		return api.Term{}, false
	}
	return x.L[n.N-1], true
}

// better tells the first of two, if they stand as the sign says; else the second one.
func better(sign string, a, b api.Term) (api.Term, bool) {
	c, e := term.Cmp(a, b)
	if isOrdered(sign, c) {
		return a, e == api.OK
	}
	return b, e == api.OK
}

func boolean(is bool) api.Term {
	if is {
		return term.Atom("true")
	}
	return term.Atom("false")
}

func isBoolean(x api.Term) bool { return isAtom(x, "true") || isAtom(x, "false") }

func isAtom(x api.Term, s string) bool { return x.Kind == api.KAtom && x.S == s }
