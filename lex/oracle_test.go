package lex_test

import (
	"math"
	"math/rand"
	"regexp"
	"slices"
	"strconv"
	"strings"
	"testing"

	"exitwave/api"
	"exitwave/lex"
)

// The oracle takes a source to pieces by regular expressions.
var (
	gapShape     = regexp.MustCompile(`^(?:[\t\n\r ]|%[^\n]*)*`)
	nameShape    = regexp.MustCompile(`^[a-zA-Z_][a-zA-Z0-9_@]*`)
	numberShape  = regexp.MustCompile(`^[0-9]+(?:\.[0-9]+)?`)
	rightShape   = regexp.MustCompile(`^(?:0|[1-9][0-9]*)(?:\.[0-9]+)?$`)
	bitsShape    = regexp.MustCompile(`^#[0-9a-f]{16}`)
	quoteShape   = regexp.MustCompile(`^(?:'(?:[^'\\]|\\[\\'"nt]|\\x[0-9a-f]{2})*'|"(?:[^"\\]|\\[\\'"nt]|\\x[0-9a-f]{2})*")`)
	escapeShape  = regexp.MustCompile(`\\(?:x..|.)`)
	signShape    = regexp.MustCompile(`^(?:=:=|=/=|->|==|/=|=<|>=|\+\+|[(){}\[\],;.|=<>+\-*/!:])`)
	keptShape    = regexp.MustCompile(`^(?:after|andalso|begin|case|catch|div|end|fun|not|of|orelse|receive|rem|try|when)$`)
	escapeTexts  = map[string]string{`\\`: `\`, `\'`: `'`, `\"`: `"`, `\n`: "\n", `\t`: "\t"}
	firstOfNames = "_" + smalls + capitals
)

func oracle(source string) ([]api.Token, api.Fault) {
	if len(source) > 65536 {
		return nil, api.Fault{Err: api.ErrLong}
	}
	var l []api.Token
	for at := 0; ; {
		at += len(gapShape.FindString(source[at:]))
		if at == len(source) {
			return append(l, api.Token{Kind: api.TEnd, At: at}), api.Fault{}
		}
		t, n, e := oracleToken(source[at:])
		if e != api.OK {
			return nil, api.Fault{Err: e, At: at}
		}
		t.At = at
		l = append(l, t)
		at += n
	}
}

// oracleToken tells the token with which rest begins, and how many bytes it has.
func oracleToken(rest string) (api.Token, int, api.Errno) {
	switch c := rest[:1]; {
	case strings.Contains(firstOfNames, c):
		s := nameShape.FindString(rest)
		t, e := oracleName(s)
		return t, len(s), e
	case strings.Contains(decimals, c):
		s := numberShape.FindString(rest)
		t, e := oracleNumber(s)
		return t, len(s), e
	case c == "#":
		u, err := strconv.ParseUint(strings.TrimPrefix(bitsShape.FindString(rest), "#"), 16, 64)
		f := math.Float64frombits(u)
		if err != nil || math.IsNaN(f) || math.IsInf(f, 0) {
			return api.Token{}, 0, api.ErrNumber
		}
		return float(0, f), 17, api.OK
	case c == "'" || c == `"`:
		s := quoteShape.FindString(rest)
		t, e := oracleQuotation(s)
		return t, len(s), e
	}
	s := signShape.FindString(rest)
	if s == "" {
		return api.Token{}, 0, api.ErrChar
	}
	return sign(0, s), len(s), api.OK
}

func oracleName(s string) (api.Token, api.Errno) {
	switch {
	case !strings.Contains(smalls, s[:1]):
		return variable(0, s), api.OK
	case keptShape.MatchString(s):
		return kept(0, s), api.OK
	case len(s) > 64:
		return api.Token{}, api.ErrQuote
	}
	return atom(0, s), api.OK
}

func oracleNumber(s string) (api.Token, api.Errno) {
	if !rightShape.MatchString(s) {
		return api.Token{}, api.ErrNumber
	}
	if strings.Contains(s, ".") {
		f, err := strconv.ParseFloat(s, 64)
		if err != nil || len(s) > 16 {
			return api.Token{}, api.ErrNumber
		}
		return float(0, f), api.OK
	}
	n, err := strconv.ParseInt(s, 10, 60)
	if err != nil {
		return api.Token{}, api.ErrNumber
	}
	return whole(0, n), api.OK
}

func oracleQuotation(s string) (api.Token, api.Errno) {
	if s == "" {
		return api.Token{}, api.ErrQuote
	}
	between := escapeShape.ReplaceAllStringFunc(s[1:len(s)-1], func(e string) string {
		if strings.HasPrefix(e, `\x`) {
			u, _ := strconv.ParseUint(e[2:], 16, 8)
			return string([]byte{byte(u)})
		}
		return escapeTexts[e]
	})
	switch {
	case s[0] == '"':
		return text(0, between), api.OK
	case len(between) > 64:
		return api.Token{}, api.ErrQuote
	}
	return atom(0, between), api.OK
}

// likeOracle tells whether Tokens and the oracle tell the same.
func likeOracle(t *testing.T, source string) bool {
	t.Helper()
	got, f := lex.Tokens(source)
	want, wantFault := oracle(source)
	if f != wantFault || !slices.EqualFunc(got, want, alike) {
		t.Errorf("P501 P502 %s: %s, %v; want %s, %v", said(source), said(got), f, said(want), wantFault)
		return false
	}
	return true
}

func TestP502Somehow(t *testing.T) {
	r := rand.New(rand.NewSource(5))
	wrong := 0
	for i := range 20000 {
		s := somehow(r)
		if !likeOracle(t, s) {
			return
		}
		if _, f := lex.Tokens(s); f.Err != api.OK {
			wrong++
		}
		if i == 19999 && (wrong < 2000 || wrong > 18000) {
			t.Errorf("of 20000 sources %d are wrong: they say too little", wrong)
		}
	}
}

// All sources of two bytes; and of three, four bytes that stand for each kind of token.
func TestP502Short(t *testing.T) {
	for _, a := range eachByte() {
		for _, b := range eachByte() {
			if !likeOracle(t, a+b) {
				return
			}
		}
	}
	few := strings.Split("a,X,0,1,.,',\",\\,=,/,:,-,>,+,%, ,\n,x,\xc3,\xa9", ",")
	var grow func(s string, n int) bool
	grow = func(s string, n int) bool {
		if n == 0 {
			return likeOracle(t, s)
		}
		for _, c := range few {
			if !grow(s+c, n-1) {
				return false
			}
		}
		return true
	}
	for n := range 5 {
		if !grow("", n) {
			return
		}
	}
}

// Bytes by chance, of all kinds, and such as stand in sources.
func TestP502Bytes(t *testing.T) {
	r := rand.New(rand.NewSource(55))
	often := `aZ_@019.#f'"\xnt=:/->+<%` + " \n(){}[],;|*!\x00\xff\xc3\xa9^"
	for range 20000 {
		b := make([]byte, r.Intn(24))
		for i := range b {
			b[i] = often[r.Intn(len(often))]
			if r.Intn(16) == 0 {
				b[i] = byte(r.Intn(256))
			}
		}
		if !likeOracle(t, string(b)) {
			return
		}
	}
}
