package gram_test

import (
	"slices"
	"strings"

	"exitwave/api"
	"exitwave/lex"
)

// The oracle takes the chapter's grammar as a text, and goes through tokens in all the ways that it leaves at once. What a try and a receive must have is said by alternatives here.
const grammar = `
module   = '-' ATOM(module) '(' ATOM ')' '.' { function } END
function = fclause { ';' fclause } '.'
fclause  = ATOM '(' [ exprs ] ')' tail
tail     = [ 'when' exprs ] '->' exprs
exprs    = expr { ',' expr }
expr     = 'catch' expr | orelse [ ( '=' | '!' ) expr ]
orelse   = andalso [ 'orelse' orelse ]
andalso  = compare [ 'andalso' andalso ]
compare  = append [ ( '==' | '/=' | '=<' | '<' | '>=' | '>' | '=:=' | '=/=' ) append ]
append   = add [ '++' append ]
add      = mul { ( '+' | '-' ) mul }
mul      = unary { ( '*' | '/' | 'div' | 'rem' ) unary }
unary    = { '-' | 'not' } call
call     = primary { '(' [ exprs ] ')' }
primary  = ATOM | VAR | INT | FLOAT | STRING | '(' expr ')' | '{' [ exprs ] '}' | '[' [ exprs [ '|' expr ] ] ']' | 'begin' exprs 'end' | 'case' expr 'of' clauses 'end' | 'fun' ATOM '/' INT | 'fun' gclause { ';' gclause } 'end' | try | receive
try      = 'try' exprs [ 'of' clauses ] ( catches | catches after | after ) 'end'
catches  = 'catch' cclause { ';' cclause }
after    = 'after' exprs
receive  = 'receive' ( clauses | clauses until | until ) 'end'
until    = 'after' ( INT(0) | ATOM(infinity) ) '->' exprs
clauses  = clause { ';' clause }
clause   = expr tail
gclause  = '(' [ exprs ] ')' tail
cclause  = [ ( ATOM(error,exit,throw) | VAR(_) ) ':' ] expr tail
`

// rule is a piece of the grammar: a word, or others in a row (s), as alternatives (|), perhaps ([), as often as they stand there ({).
type rule struct {
	how  byte
	word string
	l    []*rule
}

// ruleReader reads the words of a rule.
type ruleReader struct{ words []string }

func (r *ruleReader) next() string {
	w := r.words[0]
	r.words = r.words[1:]
	return w
}

func (r *ruleReader) alternatives() *rule {
	x := &rule{how: '|', l: []*rule{r.row()}}
	for len(r.words) > 0 && r.words[0] == "|" {
		r.next()
		x.l = append(x.l, r.row())
	}
	return x
}

func (r *ruleReader) row() *rule {
	x := &rule{how: 's'}
	for len(r.words) > 0 && !strings.Contains("|)]}", r.words[0]) {
		w := r.next()
		if !strings.Contains("([{", w) {
			x.l = append(x.l, &rule{how: 'w', word: w})
			continue
		}
		x.l = append(x.l, &rule{how: w[0], l: []*rule{r.alternatives()}})
		r.next()
	}
	return x
}

func readGrammar() map[string]*rule {
	rules := map[string]*rule{}
	for _, line := range strings.Split(strings.TrimSpace(grammar), "\n") {
		name, text, _ := strings.Cut(line, " = ")
		r := &ruleReader{words: strings.Fields(text)}
		rules[strings.TrimSpace(name)] = r.alternatives()
	}
	return rules
}

type try struct {
	word string
	at   int
}

// oracle goes through tokens; far is the last one that it has looked at.
type oracle struct {
	rules  map[string]*rule
	tokens []api.Token
	far    int
	ends   map[try][]int
}

// from tells all the places at which a piece of the grammar that begins at a place may end.
func (o *oracle) from(x *rule, at int) []int {
	switch x.how {
	case 'w':
		return o.word(x.word, at)
	case '|':
		var l []int
		for _, y := range x.l {
			l = append(l, o.from(y, at)...)
		}
		return unique(l)
	case '[':
		return unique(append(o.from(x.l[0], at), at))
	case '{':
		l := []int{at}
		for i := 0; i < len(l); i++ {
			for _, end := range o.from(x.l[0], l[i]) {
				if !slices.Contains(l, end) {
					l = append(l, end)
				}
			}
		}
		return l
	}
	l := []int{at}
	for _, y := range x.l {
		var ends []int
		for _, place := range l {
			ends = append(ends, o.from(y, place)...)
		}
		l = unique(ends)
	}
	return l
}

func unique(l []int) []int {
	slices.Sort(l)
	return slices.Compact(l)
}

func (o *oracle) word(w string, at int) []int {
	if x := o.rules[w]; x != nil {
		key := try{w, at}
		if l, known := o.ends[key]; known {
			return l
		}
		l := []int{}
		if w != "cclause" || !o.wrongClass(at) {
			l = o.from(x, at)
		}
		o.ends[key] = l
		return l
	}
	o.far = max(o.far, at)
	if at < len(o.tokens) && fits(w, o.tokens[at]) {
		return []int{at + 1}
	}
	return nil
}

// wrongClass: an ATOM or VAR with a `:` right behind it that is no class may not stand where a cclause begins.
func (o *oracle) wrongClass(at int) bool {
	o.far = max(o.far, at)
	if at+1 >= len(o.tokens) || !fits("':'", o.tokens[at+1]) {
		return false
	}
	x := o.tokens[at]
	return fits("ATOM", x) && !fits("ATOM(error,exit,throw)", x) || fits("VAR", x) && !fits("VAR(_)", x)
}

// fits tells whether a token is one of those that a word of the grammar stands for.
func fits(w string, x api.Token) bool {
	if w[0] == '\'' {
		return (x.Kind == api.TSign || x.Kind == api.TWord) && x.S == strings.Trim(w, "'")
	}
	kind, texts, some := strings.Cut(strings.TrimSuffix(w, ")"), "(")
	if x.Kind != map[string]int{"ATOM": api.TAtom, "VAR": api.TVar, "INT": api.TInt, "FLOAT": api.TFloat, "STRING": api.TString, "END": api.TEnd}[kind] {
		return false
	}
	if some && kind == "INT" {
		return x.N == 0
	}
	return !some || slices.Contains(strings.Split(texts, ","), x.S)
}

// faultOf tells the fault of a source that is nowhere too deep, and has nodes, patterns and arguments few enough: there may be none.
func faultOf(rules map[string]*rule, source string) api.Fault {
	tokens, f := lex.Tokens(source)
	if f.Err != api.OK {
		return f
	}
	o := &oracle{rules: rules, tokens: tokens, ends: map[try][]int{}}
	taken := slices.Contains(o.word("module", 0), len(tokens))
	for i := range min(o.far, len(tokens)-1) - 2 {
		if fits("'fun'", tokens[i]) && fits("ATOM", tokens[i+1]) && fits("'/'", tokens[i+2]) && fits("INT", tokens[i+3]) && tokens[i+3].N > api.MaxArity {
			return api.Fault{Err: api.ErrMany, At: tokens[i+3].At}
		}
	}
	if taken {
		return api.Fault{}
	}
	return api.Fault{Err: api.ErrSyntax, At: tokens[o.far].At}
}
