package check

import "exitwave/api"

func (w *walker) expr(n int) error {
	node := w.nodes[n]
	switch node.Kind {
	case api.NVar:
		return w.use(n)
	case api.NMatch:
		return w.match(node)
	case api.NCall:
		return w.call(n)
	case api.NFunName:
		return w.named(n)
	case api.NOp:
		return w.operation(node)
	case api.NCatch:
		return w.perhaps(node.L[0])
	case api.NCase:
		return w.choice(node)
	case api.NReceive:
		return w.receive(node)
	case api.NTry:
		return w.try(node)
	case api.NFun:
		return w.fun(n)
	}
	return w.each(node.L, w.expr)
}

func (w *walker) match(node api.Node) error {
	if err := w.expr(node.L[1]); err != nil {
		return err
	}
	return w.pattern(node.L[0])
}

func (w *walker) call(n int) error {
	node := w.nodes[n]
	if err := w.each(node.L, w.expr); err != nil {
		return err
	}
	if is, _, _ := Builtin(node.S, len(node.L)); is {
		return nil
	}
	return w.known(n, int64(len(node.L)))
}

func (w *walker) named(n int) error { return w.known(n, w.nodes[n].N) }

// known: a node may speak of a function of the module alone.
func (w *walker) known(n int, arguments int64) error {
	if _, is := w.funcs[head{name: w.nodes[n].S, n: arguments}]; !is {
		return w.wrong(api.ErrCall, n)
	}
	return nil
}

func (w *walker) operation(node api.Node) error {
	if node.S != "andalso" && node.S != "orelse" || len(node.L) != 2 {
		return w.each(node.L, w.expr)
	}
	if err := w.expr(node.L[0]); err != nil {
		return err
	}
	return w.perhaps(node.L[1])
}

// perhaps walks an expression that may be left, or not even be begun.
func (w *walker) perhaps(n int) error {
	way, err := w.way(n)
	if err != nil {
		return err
	}
	w.vars.doubt(way)
	return nil
}

// way walks an expression by itself, and tells the way through it.
func (w *walker) way(n int) ([]trace, error) {
	return w.vars.apart(func() error { return w.expr(n) })
}

func (w *walker) choice(node api.Node) error {
	if err := w.expr(node.L[0]); err != nil {
		return err
	}
	ways, err := w.clauses(node.L[1])
	if err != nil {
		return err
	}
	w.vars.join(ways)
	return nil
}

func (w *walker) receive(node api.Node) error {
	ways, err := w.clauses(node.L[0])
	if err != nil {
		return err
	}
	after, err := w.way(node.L[1])
	if err != nil {
		return err
	}
	if node.N == 1 { // a receive that waits without end never comes to its after
		ways = append(ways, after)
	}
	w.vars.join(ways)
	return nil
}

func (w *walker) try(node api.Node) error {
	body, of, err := w.tried(node.L[0], node.L[1])
	if err != nil {
		return err
	}
	w.vars.doubt(body)
	caught, err := w.clauses(node.L[2])
	if err != nil {
		return err
	}
	last, err := w.way(node.L[3])
	if err != nil {
		return err
	}
	w.vars.doubt(of...)
	w.vars.doubt(caught...)
	w.vars.doubt(last)
	return nil
}

// tried walks a try's body, and the clauses that its value may take, which alone know what that bound.
func (w *walker) tried(body, clauses int) (way []trace, of [][]trace, err error) {
	way, err = w.way(body)
	if err != nil {
		return nil, nil, err
	}
	_, err = w.vars.apart(func() error {
		w.vars.again(way)
		of, err = w.clauses(clauses)
		return err
	})
	return way, of, err
}

func (w *walker) fun(n int) error {
	if n == w.goal {
		w.free = w.taken(n)
		return errGoal
	}
	clauses := w.nodes[w.nodes[n].L[0]].L
	for _, c := range clauses {
		if w.nodes[c].N != w.nodes[clauses[0]].N {
			return w.wrong(api.ErrHead, c)
		}
	}
	return w.each(clauses, w.funClause)
}

// funClause: what its patterns name is new in it, and nothing of it is left behind.
func (w *walker) funClause(n int) error {
	_, err := w.vars.apart(func() error {
		patterns, _, _ := w.parts(n)
		for _, name := range w.variables(patterns...) {
			w.vars.put(name, neither)
		}
		return w.clause(n)
	})
	return err
}
