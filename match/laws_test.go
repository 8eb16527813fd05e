package match_test

import (
	"fmt"
	"math/rand"
	"testing"

	"exitwave/api"
	"exitwave/term"
)

// rounds is how many shapes a test makes by chance.
const rounds = 4000

// trial is a shape, and a term that it may match.
type trial struct {
	s    shape
	x    api.Term
	e    env
	tree api.Tree
	n    int
}

// trials makes shapes by chance, and terms of which about half match.
func trials(t *testing.T, seed int64, each func(c trial)) {
	t.Helper()
	r := rand.New(rand.NewSource(seed))
	for range rounds {
		c := trial{s: someShape(r, 3), e: env{}}
		values := env{}
		for _, name := range []string{"X", "Y", "Z", "_X", "T"} {
			values[name] = someTerm(r, 1)
			if name == "T" {
				values[name] = list(values[name].L...)
			}
			switch r.Intn(6) {
			case 0:
				c.e[name] = values[name]
			case 1:
				c.e[name] = bent(r, values[name])
			}
		}
		c.tree, c.n = patternOf(t, c.s.String())
		c.x = c.s.made(values, func() api.Term { return someTerm(r, 1) })
		for range 3 {
			if term.Check(c.x) == api.OK {
				each(c)
			}
			c.x = bent(r, c.x)
			if r.Intn(2) == 0 {
				c.e = env{}
			}
		}
	}
}

// P802: by chance, held against the second telling.
func TestP802ByChance(t *testing.T) {
	yes, no := 0, 0
	trials(t, 802, func(c trial) {
		want, fits := c.s.foreseen(c.x, c.e)
		got, is := askPattern(t, c.tree, c.n, c.x, c.e)
		if is != fits || is && !sameEnv(got, want) {
			t.Fatalf("P802 %s and %s, with %s: %v %s; want %v %s", c.s, said(c.x), saidEnv(c.e), is, saidEnv(got), fits, saidEnv(want))
		}
		if is {
			yes++
		} else {
			no++
		}
	})
	if yes < rounds/2 || no < rounds/2 {
		t.Errorf("%d match, %d do not: too few", yes, no)
	}
}

// P805: what matches without variables is identical.
func TestP805Identical(t *testing.T) {
	yes, no := 0, 0
	trials(t, 8051, func(c trial) {
		if c.s.has("v_=") {
			return
		}
		same, _ := term.Same(c.s.made(nil, nil), c.x)
		same = same && !c.s.never()
		if _, is := askPattern(t, c.tree, c.n, c.x, c.e); is != same {
			t.Fatalf("P805 %s and %s: %v", c.s, said(c.x), is)
		}
		if same {
			yes++
		} else {
			no++
		}
	})
	if yes < 100 || no < 100 {
		t.Errorf("%d match, %d do not: too few", yes, no)
	}
}

// P805: the values of its variables, laid in their places, make what a pattern matched.
func TestP805Made(t *testing.T) {
	count := 0
	trials(t, 8052, func(c trial) {
		bound, is := askPattern(t, c.tree, c.n, c.x, c.e)
		if !is || c.s.has("_") {
			return
		}
		count++
		if own := c.s.made(bound, nil); !alike(own, c.x) {
			t.Fatalf("P805 %s and %s: %s makes %s", c.s, said(c.x), saidEnv(bound), said(own))
		}
	})
	if count < rounds/4 {
		t.Errorf("%d: too few", count)
	}
}

// P805: matched again, with what it bound, a pattern binds no more; and it binds its own variables alone.
func TestP805Again(t *testing.T) {
	trials(t, 8053, func(c trial) {
		bound, is := askPattern(t, c.tree, c.n, c.x, c.e)
		if !is {
			return
		}
		again, is := askPattern(t, c.tree, c.n, c.x, bound)
		if !is || !sameEnv(again, bound) {
			t.Fatalf("P805 %s and %s: %s, then %v %s", c.s, said(c.x), saidEnv(bound), is, saidEnv(again))
		}
		for name, v := range bound {
			was, is := c.e[name]
			if is && !alike(was, v) || !is && !names(c.s, name) || name == "_" {
				t.Fatalf("P805 %s and %s: %s is %s", c.s, said(c.x), name, said(v))
			}
		}
		for name := range c.e {
			if _, is := bound[name]; !is {
				t.Fatalf("P802 %s and %s: %s is lost", c.s, said(c.x), name)
			}
		}
	})
}

func names(s shape, name string) bool {
	if s.kind == 'v' && s.name == name {
		return true
	}
	for _, x := range s.l {
		if names(x, name) {
			return true
		}
	}
	return false
}

// P804, P805: several patterns at once are as those of a tuple.
func TestP804ByChance(t *testing.T) {
	r := rand.New(rand.NewSource(804))
	for range rounds {
		s := shape{kind: 't', l: someShapes(r, 2, r.Intn(4))}
		head := s.String()
		x, n := clauseOf(t, "("+head[1:len(head)-1]+")")
		values := env{}
		for _, name := range []string{"X", "Y", "Z", "_X", "T"} {
			values[name] = list(someTerm(r, 1).L...)
		}
		l := s.made(values, func() api.Term { return someTerm(r, 1) }).L
		if r.Intn(2) == 0 {
			l = bent(r, tuple(l...)).L
		}
		want, fits := s.foreseen(tuple(l...), nil)
		got, is := askClause(t, x, n, l, nil)
		if is != fits || is && !sameEnv(got, want) {
			t.Fatalf("P804 f(%s) and %s: %v %s; want %v %s", head, said(list(l...)), is, saidEnv(got), fits, saidEnv(want))
		}
	}
}

// P3: neither one that matches nor one that does not changes what is told of another.
func TestP3(t *testing.T) {
	var first []string
	for range 2 {
		var now []string
		trials(t, 30, func(c trial) {
			bound, is := askPattern(t, c.tree, c.n, c.x, c.e)
			now = append(now, fmt.Sprint(is, saidEnv(bound)))
		})
		for i := range first {
			if first[i] != now[i] {
				t.Fatalf("P3: %s, then %s", first[i], now[i])
			}
		}
		first = now
	}
}
