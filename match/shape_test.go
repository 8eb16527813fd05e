package match_test

import (
	"fmt"
	"math"
	"math/rand"
	"strings"

	"exitwave/api"
	"exitwave/term"
)

// shape is a pattern as the tests make it: a second telling of P802, which goes by texts (terms are identical just where these are the same), and asks for all that must be equal first, for what is bound last.
type shape struct {
	kind  byte // l a literal, _ and v a variable, t a tuple, [ a list, | a list with a rest, = two at once
	name  string
	value api.Term // of a literal
	text  string   // of a literal
	l     []shape
}

func (s shape) String() string {
	var l []string
	for _, x := range s.l {
		l = append(l, x.String())
	}
	switch s.kind {
	case 'l':
		return s.text
	case '_':
		return "_"
	case 'v':
		return s.name
	case 't':
		return "{" + strings.Join(l, ", ") + "}"
	case '[':
		return "[" + strings.Join(l, ", ") + "]"
	case '|':
		return "[" + strings.Join(l[:len(l)-1], ", ") + " | " + l[len(l)-1] + "]"
	}
	return "(" + l[0] + ") = (" + l[1] + ")"
}

// demand is that a term has some text; or that all terms of one name have the same.
type demand struct {
	name, want string
	got        api.Term
}

// demands tells what must hold if the shape matches x; false, if it can't, by its make.
func (s shape) demands(x api.Term, out []demand) ([]demand, bool) {
	parts := x.L
	switch s.kind {
	case 'l':
		return append(out, demand{want: written(s.value), got: x}), true
	case '_':
		return out, true
	case 'v':
		return append(out, demand{name: s.name, got: x}), true
	case '=':
		parts = []api.Term{x, x}
	case '|':
		ahead := len(s.l) - 1
		if x.Kind != api.KList || len(x.L) < ahead {
			return nil, false
		}
		parts = append(append([]api.Term{}, x.L[:ahead]...), list(x.L[ahead:]...))
	default:
		if x.Kind != map[byte]int{'t': api.KTuple, '[': api.KList}[s.kind] || len(x.L) != len(s.l) {
			return nil, false
		}
	}
	fits := true
	for i, p := range s.l {
		if fits {
			out, fits = p.demands(parts[i], out)
		}
	}
	return out, fits
}

func written(x api.Term) string {
	s, e := term.Text(x)
	if e != api.OK {
		panic(e)
	}
	return s
}

// foreseen tells what a shape binds.
func (s shape) foreseen(x api.Term, e env) (env, bool) {
	all, fits := s.demands(x, nil)
	if !fits {
		return nil, false
	}
	out := env{}
	for name, v := range e {
		out[name] = v
	}
	for _, d := range all {
		if d.name != "" {
			if _, is := out[d.name]; !is {
				out[d.name] = d.got
			}
			d.want = written(out[d.name])
		}
		if written(d.got) != d.want {
			return nil, false
		}
	}
	return out, true
}

// made tells the term that a shape stands for, with what variables and the places of `_` are, from the left.
func (s shape) made(e env, free func() api.Term) api.Term {
	var l []api.Term
	for _, x := range s.l {
		l = append(l, x.made(e, free))
	}
	switch s.kind {
	case 'l':
		return s.value
	case '_':
		return free()
	case 'v':
		return e[s.name]
	case 't':
		return tuple(l...)
	case '[':
		return list(l...)
	case '|':
		last := len(l) - 1
		return list(append(l[:last:last], l[last].L...)...)
	}
	return l[0]
}

// never tells whether a shape has a rest without variables that is no list, so that it matches nothing.
func (s shape) never() bool {
	for _, x := range s.l {
		if x.never() {
			return true
		}
	}
	return s.kind == '|' && s.l[len(s.l)-1].made(nil, nil).Kind != api.KList
}

// has tells whether one of these kinds is in a shape.
func (s shape) has(kinds string) bool {
	if strings.IndexByte(kinds, s.kind) >= 0 {
		return true
	}
	for _, x := range s.l {
		if x.has(kinds) {
			return true
		}
	}
	return false
}

// someLiteral makes one by chance, with equal ones and nearly equal ones among them.
func someLiteral(r *rand.Rand) shape {
	switch r.Intn(4) {
	case 0:
		n := []int64{0, 1, 2, 97, api.MaxInt}[r.Intn(5)]
		if r.Intn(3) == 0 {
			return shape{kind: 'l', value: whole(-n), text: fmt.Sprint("-", n)}
		}
		return shape{kind: 'l', value: whole(n), text: fmt.Sprint(n)}
	case 1:
		f := []float64{0, 1, 2, 97, 1.5, math.MaxFloat64, 0x1p59}[r.Intn(7)]
		if r.Intn(2) == 0 {
			f = math.Copysign(f, -1)
		}
		if r.Intn(2) == 0 {
			return shape{kind: 'l', value: float(-f), text: fmt.Sprintf("-#%016x", math.Float64bits(f))}
		}
		return shape{kind: 'l', value: float(f), text: fmt.Sprintf("#%016x", math.Float64bits(f))}
	case 2:
		s := []string{"a", "b", "true", "'A'", "''", "'_'"}[r.Intn(6)]
		return shape{kind: 'l', value: atom(strings.Trim(s, "'")), text: s}
	}
	s := []string{"", "a", "ab", "b", "\x01"}[r.Intn(5)]
	return shape{kind: 'l', value: text(s), text: `"` + s + `"`}
}

func someShape(r *rand.Rand, deep int) shape {
	pick := r.Intn(12)
	if deep == 0 {
		pick = r.Intn(6)
	}
	switch pick {
	case 0, 1:
		return someLiteral(r)
	case 2:
		return shape{kind: '_'}
	case 3, 4, 5:
		return shape{kind: 'v', name: []string{"X", "Y", "Z", "_X", "T"}[r.Intn(5)]}
	case 6, 7:
		return shape{kind: 't', l: someShapes(r, deep-1, r.Intn(4))}
	case 8:
		return shape{kind: '[', l: someShapes(r, deep-1, r.Intn(4))}
	case 9, 10:
		s := shape{kind: '|', l: someShapes(r, deep-1, 1+r.Intn(3))}
		return shape{kind: '|', l: append(s.l, someRest(r, deep-1))}
	}
	return shape{kind: '=', l: someShapes(r, deep-1, 2)}
}

func someShapes(r *rand.Rand, deep, n int) []shape {
	var l []shape
	for range n {
		l = append(l, someShape(r, deep))
	}
	return l
}

// someRest mostly is one that a list can match.
func someRest(r *rand.Rand, deep int) shape {
	s := someShape(r, deep)
	if r.Intn(8) > 0 && (s.kind == 't' || s.kind == 'l' && s.value.Kind != api.KList) {
		return shape{kind: 'v', name: "T"}
	}
	return s
}

// someTerm makes a small right term by chance.
func someTerm(r *rand.Rand, deep int) api.Term {
	all := kinds()
	if deep == 0 || r.Intn(3) > 0 {
		return all[r.Intn(len(all))]
	}
	x := api.Term{Kind: []int{api.KTuple, api.KList, api.KList}[r.Intn(3)]}
	for range r.Intn(4) {
		x.L = append(x.L, someTerm(r, deep-1))
	}
	return x
}

// bent is a term in which one thing was changed by chance.
func bent(r *rand.Rand, x api.Term) api.Term {
	x = term.Copy(x)
	if len(x.L) > 0 && r.Intn(4) > 0 {
		i := r.Intn(len(x.L))
		x.L[i] = bent(r, x.L[i])
		return x
	}
	switch {
	case x.Kind == api.KInt && r.Intn(2) == 0:
		return float(float64(x.N))
	case x.Kind == api.KFloat && x.F == 0:
		return float(-x.F)
	case x.Kind == api.KFloat && math.Abs(x.F) < 1<<50 && x.F == math.Trunc(x.F) && r.Intn(2) == 0:
		return whole(int64(x.F))
	case len(x.L) > 0 && r.Intn(2) == 0:
		x.L = x.L[1:]
		return x
	case x.Kind == api.KList || x.Kind == api.KTuple:
		if r.Intn(3) == 0 {
			x.Kind = api.KList + api.KTuple - x.Kind
			return x
		}
		x.L = append(x.L, someTerm(r, 1))
		return x
	}
	return someTerm(r, 1)
}
