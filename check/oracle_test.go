package check_test

import (
	"slices"

	"exitwave/api"
)

// worlds are the ways on which a place may be come to, each told by the set of variables (bits) that have values then: one that has a value in all of them is bound, one that has it in some is unsafe.
type worlds map[uint]bool

func (w worlds) with(more worlds) worlds {
	all := worlds{}
	for x := range w {
		all[x] = true
	}
	for x := range more {
		all[x] = true
	}
	return all
}

func (w worlds) each(change func(uint) uint) worlds {
	all := worlds{}
	for x := range w {
		all[change(x)] = true
	}
	return all
}

// have tells in how many a variable has a value: 'n' none, 's' some, 'a' all.
func (w worlds) have(bit uint) byte {
	count := 0
	for x := range w {
		if x&bit != 0 {
			count++
		}
	}
	switch count {
	case 0:
		return 'n'
	case len(w):
		return 'a'
	}
	return 's'
}

// oracle goes over a tree as the document says, with worlds instead of what is bound and unsafe; it panics with the first fault.
type oracle struct {
	nodes []api.Node
	names []string          // of variables, by their bits
	at    map[int]worlds    // the worlds ahead of each fun
	sorts map[string]string // of builtins
}

func (o *oracle) bit(name string) uint {
	i := slices.Index(o.names, name)
	if i < 0 {
		i = len(o.names)
		o.names = append(o.names, name)
	}
	return 1 << i
}

func (o *oracle) fail(e api.Errno, n int) { panic(api.Fault{Err: e, At: o.nodes[n].At}) }

// foreseen tells the fault that a tree must have, and what must be told of each of its funs.
func foreseen(x api.Tree) (f api.Fault, free map[int][]string) {
	o := &oracle{nodes: x.Nodes, at: map[int]worlds{}, sorts: sorts()}
	defer func() {
		if e := recover(); e != nil {
			f, free = e.(api.Fault), nil
		}
	}()
	funcs := o.nodes[x.Root].L
	for i, n := range funcs {
		o.heads(funcs[:i], n)
	}
	for _, n := range funcs {
		o.clauses(o.nodes[n].L[0], worlds{0: true})
	}
	free = map[int][]string{}
	for n, w := range o.at {
		free[n] = o.free(n, w)
	}
	return api.Fault{}, free
}

func (o *oracle) heads(ahead []int, n int) {
	f := o.nodes[n]
	for _, c := range o.nodes[f.L[0]].L {
		if o.nodes[c].S != f.S || len(o.nodes[c].L)-2 != int(f.N) {
			o.fail(api.ErrHead, c)
		}
	}
	for _, m := range ahead {
		if o.nodes[m].S == f.S && o.nodes[m].N == f.N {
			o.fail(api.ErrTwice, n)
		}
	}
}

// clauses tells the worlds behind each of them, together; none, if there are no clauses.
func (o *oracle) clauses(n int, in worlds) worlds {
	out := worlds{}
	for _, c := range o.nodes[n].L {
		out = out.with(o.clause(c, in))
	}
	return out
}

func (o *oracle) clause(n int, in worlds) worlds {
	l := o.nodes[n].L
	for len(l) > 2 {
		in = o.pattern(l[0], in)
		l = l[1:]
	}
	for _, test := range o.nodes[l[0]].L {
		o.guard(test, in)
	}
	return o.expr(l[1], in)
}

func (o *oracle) pattern(n int, in worlds) worlds {
	x := o.nodes[n]
	negative := x.Kind == api.NOp && x.S == "-" && len(x.L) == 1 && (o.nodes[x.L[0]].Kind == api.NInt || o.nodes[x.L[0]].Kind == api.NFloat)
	if negative || slices.Contains([]int{api.NInt, api.NFloat, api.NAtom, api.NString}, x.Kind) {
		return in
	}
	if x.Kind == api.NVar {
		if x.S == "_" {
			return in
		}
		bit := o.bit(x.S)
		if in.have(bit) == 's' {
			o.fail(api.ErrUnsafe, n)
		}
		return in.each(func(w uint) uint { return w | bit })
	}
	if !slices.Contains([]int{api.NTuple, api.NList, api.NCons, api.NMatch}, x.Kind) {
		o.fail(api.ErrPattern, n)
	}
	for _, p := range x.L {
		in = o.pattern(p, in)
	}
	return in
}

func (o *oracle) guard(n int, in worlds) {
	x := o.nodes[n]
	may := slices.Contains([]int{api.NInt, api.NFloat, api.NAtom, api.NString, api.NVar, api.NTuple, api.NList, api.NCons, api.NOp}, x.Kind) && (x.Kind != api.NOp || x.S != "!")
	if x.Kind == api.NCall {
		may = o.sorts[x.S+"/"+string(rune('0'+len(x.L)))] == "guard"
	}
	if !may {
		o.fail(api.ErrGuard, n)
	}
	if x.Kind == api.NVar {
		o.use(n, in)
	}
	for _, p := range x.L {
		o.guard(p, in)
	}
}

func (o *oracle) use(n int, in worlds) {
	name := o.nodes[n].S
	if name == "_" || in.have(o.bit(name)) == 'n' {
		o.fail(api.ErrUnbound, n)
	}
	if in.have(o.bit(name)) == 's' {
		o.fail(api.ErrUnsafe, n)
	}
}

// isFunction tells whether the module has it.
func (o *oracle) isFunction(name string, n int) bool {
	return slices.ContainsFunc(o.nodes, func(x api.Node) bool { return x.Kind == api.NFunc && x.S == name && int(x.N) == n })
}

func (o *oracle) exprs(l []int, in worlds) worlds {
	for _, n := range l {
		in = o.expr(n, in)
	}
	return in
}

func (o *oracle) expr(n int, in worlds) worlds {
	x := o.nodes[n]
	switch x.Kind {
	case api.NVar:
		o.use(n, in)
		return in
	case api.NMatch:
		return o.pattern(x.L[0], o.expr(x.L[1], in))
	case api.NCall:
		in = o.exprs(x.L, in)
		if !o.isFunction(x.S, len(x.L)) && o.sorts[x.S+"/"+string(rune('0'+len(x.L)))] == "" {
			o.fail(api.ErrCall, n)
		}
		return in
	case api.NFunName:
		if !o.isFunction(x.S, int(x.N)) {
			o.fail(api.ErrCall, n)
		}
		return in
	case api.NOp:
		if x.S == "andalso" || x.S == "orelse" {
			first := o.expr(x.L[0], in)
			return first.with(o.expr(x.L[1], first))
		}
	case api.NCatch:
		return in.with(o.expr(x.L[0], in))
	case api.NCase:
		return o.clauses(x.L[1], o.expr(x.L[0], in))
	case api.NReceive:
		return o.receive(x, in)
	case api.NTry:
		return o.try(x, in)
	case api.NFun:
		o.fun(n, in)
		return in
	}
	return o.exprs(x.L, in)
}

func (o *oracle) receive(x api.Node, in worlds) worlds {
	out := o.clauses(x.L[0], in)
	behind := o.expr(x.L[1], in)
	if x.N == 1 {
		out = out.with(behind)
	}
	if len(out) == 0 { // it never ends
		return in
	}
	return out
}

func (o *oracle) try(x api.Node, in worlds) worlds {
	body := o.expr(x.L[0], in)
	out := in.with(body).with(o.clauses(x.L[1], body))
	left := in.with(body) // by a raise, perhaps
	out = out.with(o.clauses(x.L[2], left))
	return out.with(o.expr(x.L[3], left))
}

func (o *oracle) fun(n int, in worlds) {
	o.at[n] = in
	clauses := o.nodes[o.nodes[n].L[0]].L
	for _, c := range clauses {
		if len(o.nodes[c].L) != len(o.nodes[clauses[0]].L) {
			o.fail(api.ErrHead, c)
		}
	}
	for _, c := range clauses {
		new := uint(0)
		for _, p := range o.nodes[c].L[:len(o.nodes[c].L)-2] {
			for _, name := range o.occurring(p) {
				new |= o.bit(name)
			}
		}
		o.clause(c, in.each(func(w uint) uint { return w &^ new }))
	}
}

// occurring tells the names of the variables at a node and below it, as they come.
func (o *oracle) occurring(n int) []string {
	x := o.nodes[n]
	if x.Kind == api.NVar {
		return []string{x.S}
	}
	var l []string
	for _, p := range x.L {
		l = append(l, o.occurring(p)...)
	}
	return l
}

func (o *oracle) free(n int, in worlds) []string {
	var l []string
	for _, name := range o.occurring(n) {
		if name != "_" && in.have(o.bit(name)) == 'a' && !slices.Contains(l, name) {
			l = append(l, name)
		}
	}
	return l
}
