package gram_test

import (
	"math/rand"
	"slices"
	"strings"
	"testing"

	"exitwave/api"
	"exitwave/gram"
)

// Where the chapter's grammar takes a source, there is a tree; else the fault is at the first token that it does not take.
func TestP601Grammar(t *testing.T) {
	t.Parallel()
	r := rand.New(rand.NewSource(6010))
	rules := readGrammar()
	taken, refused := 0, 0
	for range 5000 {
		tokens, _ := written(r, 20, 6)
		for range r.Intn(3) {
			tokens = changed(r, tokens)
		}
		source, _ := joined(tokens, oneBlank)
		if likeGrammar(t, rules, source) {
			taken++
		} else {
			refused++
		}
	}
	if taken < 500 || refused < 500 {
		t.Errorf("%d sources are taken, %d refused: too few", taken, refused)
	}
}

// anyToken is one of each kind, and each sign and kept word.
func anyToken() []string {
	signs := strings.Fields("=:= =/= -> == /= =< >= ++ ( ) { } [ ] , ; . | = < > + - * / ! :")
	return slices.Concat(signs, keptWords, strings.Fields("a f module error throw infinity 'end' X _ 0 1 1.5 \"s\""))
}

// changed: tokens of which one is left out, doubled, put in, moved, or another one.
func changed(r *rand.Rand, tokens []string) []string {
	tokens = slices.Clone(tokens)
	i, j := r.Intn(len(tokens)), r.Intn(len(tokens))
	other := anyToken()[r.Intn(len(anyToken()))]
	switch r.Intn(5) {
	case 0:
		return append(slices.Delete(tokens, i, i+1), ".")
	case 1:
		return slices.Insert(tokens, i, tokens[i])
	case 2:
		return slices.Insert(tokens, i, other)
	case 3:
		tokens[i], tokens[j] = tokens[j], tokens[i]
	default:
		tokens[i] = other
	}
	return tokens
}

// likeGrammar asks for the fault that the oracle tells; it tells whether there is none.
func likeGrammar(t *testing.T, rules map[string]*rule, source string) bool {
	t.Helper()
	want := faultOf(rules, source)
	x, f := gram.Parse(source)
	if f != want || (f.Err == api.OK) != (len(x.Nodes) > 0) {
		t.Errorf("P601 %s: %v, %d nodes; want %v", said(source), f, len(x.Nodes), want)
	}
	return f.Err == api.OK
}

// All that may stand behind all fronts of some sources: each token, and the end.
func TestP601EachToken(t *testing.T) {
	t.Parallel()
	rules := readGrammar()
	for _, source := range []string{
		"- module ( m ) . f ( X , 1 ) when X , Y -> a , b ; f ( ) -> { } . g ( ) -> [ ] .",
		"- module ( m ) . f ( ) -> case X of { a , B } when C -> D ; _ -> [ a , b | c ] end .",
		"- module ( m ) . f ( ) -> try a , b of c -> d ; e -> g catch error : X when Y -> Z ; _ : h -> i ; j -> k after l , m end .",
		"- module ( m ) . f ( ) -> receive a when b -> c ; d -> e after 0 -> g , h end .",
		"- module ( m ) . f ( ) -> receive after infinity -> g end , fun f / 1 , fun ( X ) -> X ; ( ) when Y -> Z end .",
		"- module ( m ) . f ( ) -> catch a = b ! c orelse d andalso e == - g ++ not h + i * j ( k , l ) ( ) , begin ( m ) , 1 end .",
	} {
		tokens := strings.Fields(source)
		for i := range len(tokens) + 1 {
			ahead := strings.Join(tokens[:i], " ")
			likeGrammar(t, rules, ahead)
			for _, x := range anyToken() {
				likeGrammar(t, rules, ahead+" "+x)
				likeGrammar(t, rules, ahead+" "+x+" "+strings.Join(tokens[i:], " "))
				if i < len(tokens) {
					likeGrammar(t, rules, ahead+" "+x+" "+strings.Join(tokens[i+1:], " "))
				}
			}
		}
	}
}

// All bodies of two tokens, and with a few behind them.
func TestP601Pairs(t *testing.T) {
	t.Parallel()
	rules := readGrammar()
	for _, a := range anyToken() {
		for _, b := range anyToken() {
			for _, end := range []string{" .", " a .", " -> a end ."} {
				likeGrammar(t, rules, front+a+" "+b+end)
			}
			likeGrammar(t, rules, front+"try a catch "+a+" "+b+" -> b end.")
		}
	}
}
