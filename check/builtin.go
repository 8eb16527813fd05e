package check

// isGuard: those of chapter 9 that may stand in a guard.
func isGuard(name string, n int) bool {
	switch n {
	case 1:
		return isTest(name) || isMeasure(name)
	case 2:
		switch name {
		case "element", "is_function", "min", "max":
			return true
		}
	}
	return false
}

func isTest(name string) bool {
	switch name {
	case "is_atom", "is_integer", "is_float", "is_number", "is_list", "is_tuple", "is_pid", "is_reference", "is_function", "is_boolean":
		return true
	}
	return false
}

func isMeasure(name string) bool {
	switch name {
	case "abs", "float", "trunc", "round", "floor", "ceil", "hd", "tl", "length", "tuple_size":
		return true
	}
	return false
}

// isAsking: those that ask the process.
func isAsking(name string, n int) bool {
	switch n {
	case 0:
		return name == "self" || name == "make_ref"
	case 1:
		switch name {
		case "spawn", "spawn_link", "spawn_monitor", "link", "unlink", "demonitor", "unregister", "whereis", "is_process_alive", "out":
			return true
		}
	case 2:
		switch name {
		case "monitor", "demonitor", "exit", "process_flag", "register":
			return true
		}
	}
	return false
}

// isOther: the rest of chapter 9's, and those that raise.
func isOther(name string, n int) bool {
	switch n {
	case 1:
		switch name {
		case "tuple_to_list", "list_to_tuple", "atom_to_list", "list_to_atom", "integer_to_list", "list_to_integer", "float_to_list", "bits", "reverse", "sort", "size":
			return true
		case "exit", "throw", "error":
			return true
		}
	case 2:
		return name == "member" || name == "nth"
	case 3:
		return name == "setelement"
	}
	return false
}
