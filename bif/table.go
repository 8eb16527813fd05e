package bif

import "exitwave/api"

// row is a builtin, or an operator: its name, how many arguments it has, what it tells of them.
type row struct {
	name string
	n    int
	tell func(call) api.Term
}

func find(table []row, name string, n int) (row, bool) {
	for _, r := range table {
		if r.n == n && r.name == name {
			return r, true
		}
	}
	return row{}, false
}

// guards: the builtins that may stand in a guard.
func guards() []row {
	return []row{
		{"abs", 1, call.abs},
		{"float", 1, call.real},
		{"trunc", 1, call.whole},
		{"round", 1, call.whole},
		{"floor", 1, call.whole},
		{"ceil", 1, call.whole},
		{"hd", 1, call.head},
		{"tl", 1, call.rest},
		{"length", 1, call.length},
		{"tuple_size", 1, call.tupleSize},
		{"element", 2, call.element},
		{"is_atom", 1, call.isAtom},
		{"is_integer", 1, call.isInteger},
		{"is_float", 1, call.isFloat},
		{"is_number", 1, call.isNumber},
		{"is_list", 1, call.isList},
		{"is_tuple", 1, call.isTuple},
		{"is_pid", 1, call.isPid},
		{"is_reference", 1, call.isReference},
		{"is_function", 1, call.isFunction},
		{"is_boolean", 1, call.isBoolean},
		{"is_function", 2, call.takes},
		{"min", 2, call.least},
		{"max", 2, call.greatest},
	}
}

// others: the builtins that may not.
func others() []row {
	return []row{
		{"setelement", 3, call.setElement},
		{"tuple_to_list", 1, call.tupleToList},
		{"list_to_tuple", 1, call.listToTuple},
		{"atom_to_list", 1, call.atomToList},
		{"list_to_atom", 1, call.listToAtom},
		{"integer_to_list", 1, call.integerToList},
		{"list_to_integer", 1, call.listToInteger},
		{"float_to_list", 1, call.floatToList},
		{"bits", 1, call.bits},
		{"reverse", 1, call.reverse},
		{"sort", 1, call.sort},
		{"member", 2, call.member},
		{"nth", 2, call.nth},
		{"size", 1, call.size},
	}
}

func operators() []row {
	return []row{
		{"+", 2, call.arithmetic},
		{"-", 2, call.arithmetic},
		{"*", 2, call.arithmetic},
		{"/", 2, call.arithmetic},
		{"div", 2, call.arithmetic},
		{"rem", 2, call.arithmetic},
		{"==", 2, call.equal},
		{"/=", 2, call.unequal},
		{"=<", 2, call.notAbove},
		{"<", 2, call.below},
		{">=", 2, call.notBelow},
		{">", 2, call.above},
		{"=:=", 2, call.identical},
		{"=/=", 2, call.different},
		{"++", 2, call.joined},
		{"-", 1, call.negative},
		{"not", 1, call.opposite},
	}
}
