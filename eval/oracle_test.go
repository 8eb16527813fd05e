package eval_test

import (
	"fmt"
	"maps"
	"math/rand"

	"exitwave/api"
	"exitwave/bif"
	"exitwave/check"
	"exitwave/eval"
	"exitwave/match"
	"exitwave/term"
)

// The oracle reckons a source in another way than a machine does: by calls within calls. It keeps no stack, it only counts what waits; it is never cut.

type env = map[string]api.Term

// out is what comes out of a node: a raise, or, of class 0, a value.
type out struct {
	class int
	x     api.Term
}

// gaveUp is why the oracle did not come to an end: "spent", or "wait".
type gaveUp string

// oracle writes down all that is asked and offered.
type oracle struct {
	tree  api.Tree
	waits int
	fuel  int
	world *world
}

// world is what a process meets: what it asks is answered, and messages are offered, each time by the number of the stop.
type world struct {
	seed  int64
	stops int
	log   []string
}

func (w *world) chance() *rand.Rand {
	w.stops++
	return rand.New(rand.NewSource(w.seed + int64(w.stops)))
}

func someTerm(r *rand.Rand) api.Term {
	return []api.Term{whole(0), whole(1), whole(2), atom("a"), atom("true"), atom("false"), float(1), list(), list(whole(1), atom("a")), tuple(whole(1), whole(2)), tuple(atom("a")), pid(1), tuple()}[r.Intn(13)]
}

func (w *world) answer(what string, l []api.Term) out {
	r := w.chance()
	w.log = append(w.log, "ask "+what+" "+said(list(l...)))
	if r.Intn(4) == 0 {
		return out{1 + r.Intn(3), someTerm(r)}
	}
	return out{0, someTerm(r)}
}

func (w *world) offers(zero bool) []api.Term {
	r := w.chance()
	w.log = append(w.log, fmt.Sprint("wait ", zero))
	var l []api.Term
	for range r.Intn(6) {
		l = append(l, someTerm(r))
	}
	return l
}

func (w *world) took(i int) { w.log = append(w.log, fmt.Sprint("took ", i)) }

func failed(word string) out { return out{api.CError, atom(word)} }

func rightOr(x api.Term) out {
	if term.Check(x) != api.OK {
		return failed("system_limit")
	}
	return out{0, x}
}

func toldOr(x api.Term, e api.Errno) out {
	if e != api.OK {
		return failed(e.Error())
	}
	return out{0, x}
}

// within reckons what a node does while it waits.
func (o *oracle) within(do func() (env, out)) (env, out) {
	if o.waits == most {
		return nil, failed("system_limit")
	}
	o.waits++
	e, x := do()
	o.waits--
	return e, x
}

// parts reckons the parts of a node, which waits.
func (o *oracle) parts(places []int, e env) (env, []api.Term, out) {
	var l []api.Term
	if len(places) == 0 {
		return e, nil, out{}
	}
	e, x := o.within(func() (env, out) {
		for _, n := range places {
			var x out
			if e, x = o.expr(n, e); x.class != 0 {
				return e, x
			}
			l = append(l, x.x)
		}
		return e, out{}
	})
	return e, l, x
}

func (o *oracle) expr(n int, e env) (env, out) {
	node := o.tree.Nodes[n]
	if x, is := match.Literal(o.tree, n); is {
		return e, rightOr(x)
	}
	switch node.Kind {
	case api.NVar:
		return e, out{0, e[node.S]}
	case api.NFun, api.NFunName:
		x := fun(n)
		for _, name := range check.Free(o.tree, n) {
			x.L = append(x.L, e[name])
		}
		return e, rightOr(x)
	case api.NBody:
		return o.body(node.L, e)
	case api.NCase:
		e, x := o.within(func() (env, out) { return o.expr(node.L[0], e) })
		if x.class != 0 {
			return e, x
		}
		return o.clauses(o.tree.Nodes[node.L[1]].L, []api.Term{x.x}, e, failed("case_clause"))
	case api.NMatch:
		return o.match(node, e)
	case api.NCatch:
		return o.catch(node, e)
	case api.NTry:
		return o.try(node, e)
	case api.NReceive:
		return o.receive(node, e)
	}
	if node.S == "andalso" && node.Kind == api.NOp || node.S == "orelse" && node.Kind == api.NOp {
		return o.either(node, e)
	}
	e, l, x := o.parts(node.L, e)
	if x.class != 0 {
		return e, x
	}
	return e, o.made(node, l)
}

func (o *oracle) made(node api.Node, l []api.Term) out {
	switch node.Kind {
	case api.NTuple:
		return rightOr(tuple(l...))
	case api.NList:
		return rightOr(list(l...))
	case api.NCons:
		last := l[len(l)-1]
		if last.Kind != api.KList {
			return failed("badarg")
		}
		return rightOr(list(append(l[:len(l)-1:len(l)-1], last.L...)...))
	case api.NOp:
		if node.S == "!" {
			return o.world.answer("send", l)
		}
		return toldOr(bif.Op(node.S, l))
	case api.NCall:
		return o.call(node.S, l)
	}
	return o.apply(l[0], l[1:])
}

func (o *oracle) body(l []int, e env) (env, out) {
	if len(l) > 1 {
		var x out
		if e, x = o.within(func() (env, out) {
			var x out
			for _, n := range l[:len(l)-1] {
				if e, x = o.expr(n, e); x.class != 0 {
					break
				}
			}
			return e, x
		}); x.class != 0 {
			return e, x
		}
	}
	return o.expr(l[len(l)-1], e)
}

// clauses reckons the body of the first clause that is taken.
func (o *oracle) clauses(l []int, terms []api.Term, e env, none out) (env, out) {
	for _, c := range l {
		if bound, is := match.Clause(o.tree, c, terms, e, 1); is {
			parts := o.tree.Nodes[c].L
			return o.expr(parts[len(parts)-1], bound)
		}
	}
	return e, none
}

func (o *oracle) match(node api.Node, e env) (env, out) {
	e, x := o.within(func() (env, out) { return o.expr(node.L[1], e) })
	if x.class != 0 {
		return e, x
	}
	bound, is := match.Pattern(o.tree, node.L[0], x.x, e)
	if !is {
		return e, failed("badmatch")
	}
	return bound, x
}

func (o *oracle) catch(node api.Node, e env) (env, out) {
	began := false
	behind, x := o.within(func() (env, out) { began = true; return o.expr(node.L[0], e) })
	switch {
	case x.class == 0:
		return behind, x
	case !began:
		return e, x
	case x.class == api.CThrow:
		return e, out{0, x.x}
	}
	return e, rightOr(tuple(atom("EXIT"), x.x))
}

func (o *oracle) either(node api.Node, e env) (env, out) {
	e, x := o.within(func() (env, out) { return o.expr(node.L[0], e) })
	switch {
	case x.class != 0:
		return e, x
	case !alike(x.x, atom("true")) && !alike(x.x, atom("false")):
		return e, failed("badarg")
	case alike(x.x, atom("true")) == (node.S == "andalso"):
		return o.expr(node.L[1], e)
	}
	return e, x
}

func (o *oracle) try(node api.Node, ahead env) (env, out) {
	return o.within(func() (env, out) {
		of, caught := o.tree.Nodes[node.L[1]].L, o.tree.Nodes[node.L[2]].L
		e, x := o.expr(node.L[0], ahead)
		switch {
		case x.class != 0:
			_, x = o.clauses(caught, []api.Term{atom(className(x.class)), x.x}, ahead, x)
		case len(of) > 0:
			_, x = o.clauses(of, []api.Term{x.x}, e, failed("try_clause"))
		}
		if node.N == 1 {
			if _, last := o.expr(node.L[3], ahead); last.class != 0 {
				x = last
			}
		}
		return ahead, x
	})
}

func (o *oracle) receive(node api.Node, e env) (env, out) {
	for i, x := range o.world.offers(node.N == 1) {
		for _, c := range o.tree.Nodes[node.L[0]].L {
			if bound, is := match.Clause(o.tree, c, []api.Term{x}, e, 1); is {
				o.world.took(i)
				parts := o.tree.Nodes[c].L
				return o.expr(parts[len(parts)-1], bound)
			}
		}
	}
	if node.N != 1 {
		panic(gaveUp("wait"))
	}
	o.world.took(-1)
	return o.expr(node.L[1], e)
}

func (o *oracle) spend() {
	if o.fuel == 0 {
		panic(gaveUp("spent"))
	}
	o.fuel--
}

// funcOf tells the clauses of a function of the module.
func (o *oracle) funcOf(name string, n int) []int {
	for _, f := range o.tree.Nodes[o.tree.Root].L {
		if node := o.tree.Nodes[f]; node.S == name && node.N == int64(n) {
			return o.tree.Nodes[node.L[0]].L
		}
	}
	return nil
}

func (o *oracle) call(name string, l []api.Term) out {
	o.spend()
	if clauses := o.funcOf(name, len(l)); clauses != nil {
		_, x := o.clauses(clauses, l, env{}, failed("function_clause"))
		return x
	}
	for class := 1; class <= 3; class++ {
		if name == className(class) && len(l) == 1 {
			return out{class, l[0]}
		}
	}
	if _, _, asks := check.Builtin(name, len(l)); asks {
		return o.world.answer(name, l)
	}
	return toldOr(bif.Call(name, l, func(f api.Term) int { return eval.Arity(o.tree, f) }))
}

func (o *oracle) apply(f api.Term, l []api.Term) out {
	o.spend()
	n := eval.Arity(o.tree, f)
	if n < 0 {
		return failed("badfun")
	}
	if n != len(l) {
		return failed("badarity")
	}
	node := o.tree.Nodes[f.N]
	if node.Kind == api.NFunName {
		_, x := o.clauses(o.funcOf(node.S, n), l, env{}, failed("function_clause"))
		return x
	}
	free := check.Free(o.tree, int(f.N))
	for _, c := range o.tree.Nodes[node.L[0]].L {
		e := env{}
		for i, name := range free {
			e[name] = f.L[i]
		}
		for _, p := range o.tree.Nodes[c].L[:n] {
			maps.DeleteFunc(e, func(name string, _ api.Term) bool { return o.occurs(name, p) })
		}
		if _, is := match.Clause(o.tree, c, l, e, 1); is {
			_, x := o.clauses([]int{c}, l, e, out{})
			return x
		}
	}
	return failed("function_clause")
}

func (o *oracle) occurs(name string, n int) bool {
	node := o.tree.Nodes[n]
	for _, p := range node.L {
		if o.occurs(name, p) {
			return true
		}
	}
	return node.Kind == api.NVar && node.S == name
}

// foreseen tells what a call of a function comes to: what it stops with at last, the fuel that is left, and what was asked and offered.
func foreseen(x api.Tree, name string, l []api.Term, fuel int, seed int64) (end string, left int, log []string) {
	o := &oracle{tree: x, fuel: fuel, world: &world{seed: seed}}
	defer func() {
		if why, is := recover().(gaveUp); is {
			end, left, log = string(why), o.fuel, o.world.log
		}
	}()
	r := o.call(name, l)
	e := api.Event{Kind: api.VDone, Term: r.x}
	if r.class != 0 {
		e = api.Event{Kind: api.VRaise, Class: r.class, Term: r.x}
	}
	return told(e), o.fuel, o.world.log
}

// lived lets machines meet the same world.
func lived(m *machine, fuel int, seed int64) (end string, left int, log []string) {
	w := &world{seed: seed}
	left = fuel
	for {
		var x api.Event
		x, left = m.run(left)
		switch x.Kind {
		case api.VAsk:
			if a := w.answer(x.S, x.L); a.class == 0 {
				m.gives(a.x)
			} else if e := m.fail(a.class, a.x); e != api.OK {
				m.t.Fatalf("P1003 Fail: %v", e)
			}
		case api.VWait:
			if !m.meets(w, x.Zero) {
				return "wait", left, w.log
			}
		default:
			return told(x), left, w.log
		}
	}
}

// meets offers what a world has, and tells whether the machines go on.
func (m *machine) meets(w *world, zero bool) bool {
	for i, x := range w.offers(zero) {
		if is, e := m.offer(x); e != api.OK {
			m.t.Fatalf("P1004 Offer: %v", e)
		} else if is {
			w.took(i)
			return true
		}
	}
	if e := m.after(); (e == api.OK) != zero {
		m.t.Fatalf("P1004 After: %v", e)
	}
	if zero {
		w.took(-1)
	}
	return zero
}
