package lex_test

import (
	"fmt"
	"math"
	"math/big"
	"math/rand"
	"strconv"
	"strings"
	"testing"

	"exitwave/api"
)

func TestP501Wholes(t *testing.T) {
	for _, n := range []int64{0, 1, 9, 10, 42, 100, 1234567890, 1<<31 - 1, 1 << 31, 1 << 53, 1<<53 + 1, 99999999999999999, 100000000000000000, api.MaxInt - 1, api.MaxInt} {
		s := strconv.FormatInt(n, 10)
		expect(t, s, whole(0, n))
		expect(t, "-"+s+"-", sign(0, "-"), whole(1, n), sign(1+len(s), "-"))
		expect(t, s+".", whole(0, n), sign(len(s), "."))
		expect(t, s+"a", whole(0, n), atom(len(s), "a"))
		expect(t, s+"_1", whole(0, n), variable(len(s), "_1"))
		for zeros := 1; zeros <= 20; zeros++ {
			expectFault(t, strings.Repeat("0", zeros)+s, api.ErrNumber, 0)
		}
	}
	expect(t, "1e3", whole(0, 1), atom(1, "e3"))
	expect(t, "0x1f", whole(0, 0), atom(1, "x1f"))
	expect(t, "1'0'", whole(0, 1), atom(1, "0"))
}

func TestP502Wholes(t *testing.T) {
	for _, s := range []string{
		"576460752303423488", "576460752303423489", "576460752303423490", "999999999999999999", "1000000000000000000", "1152921504606846976",
		"9223372036854775807", "9223372036854775808", "18446744073709551615", "18446744073709551616", "18446744073709551617", "36893488147419103233",
		"00", "000", "01", "007", "09", "00000000000000000000", strings.Repeat("9", 1000), "1" + strings.Repeat("0", 65535), strings.Repeat("0", 65536),
	} {
		expectFault(t, s, api.ErrNumber, 0)
		if len(s) < 65530 {
			expectFault(t, "a "+s+" ^", api.ErrNumber, 2)
			expectFault(t, "-"+s+".", api.ErrNumber, 1)
		}
	}
	most := new(big.Int).SetInt64(api.MaxInt)
	for k := range 80 {
		n := new(big.Int).Lsh(big.NewInt(1), uint(k))
		for d := int64(-2); d <= 2; d++ {
			x := new(big.Int).Add(n, big.NewInt(d))
			if x.Sign() < 0 {
				continue
			}
			if x.Cmp(most) > 0 {
				expectFault(t, x.String(), api.ErrNumber, 0)
			} else {
				expect(t, x.String(), whole(0, x.Int64()))
			}
		}
	}
}

func TestP501Floats(t *testing.T) {
	for _, c := range []struct {
		s string
		f float64
	}{
		{"0.0", 0}, {"0.5", 0.5}, {"1.0", 1}, {"1.5", 1.5}, {"10.25", 10.25}, {"0.1", 0.1}, {"0.3", 0.3}, {"0.7", 0.7}, {"1.1", 1.1}, {"2.675", 2.675}, {"1.05", 1.05}, {"1.50", 1.5},
		{"0.00000000000001", 1e-14}, {"0.00000000000000", 0}, {"1.00000000000000", 1}, {"99999999999999.9", 99999999999999.9}, {"9.99999999999999", 9.99999999999999}, {"12345678.9012345", 12345678.9012345}, {"10000000000000.0", 1e13},
	} {
		n := len(c.s)
		expect(t, c.s, float(0, c.f))
		expect(t, "-"+c.s, sign(0, "-"), float(1, c.f))
		expect(t, c.s+".", float(0, c.f), sign(n, "."))
		expect(t, c.s+".5", float(0, c.f), sign(n, "."), whole(n+1, 5))
		expect(t, c.s+"e3", float(0, c.f), atom(n, "e3"))
		expect(t, c.s+"..", float(0, c.f), sign(n, "."), sign(n+1, "."))
		expectFault(t, "0"+c.s, api.ErrNumber, 0)
		expectFault(t, "00"+c.s, api.ErrNumber, 0)
	}
}

// A point goes with the number only if a digit stands right behind it.
func TestP501Points(t *testing.T) {
	expect(t, "1.", whole(0, 1), sign(1, "."))
	expect(t, "1..5", whole(0, 1), sign(1, "."), sign(2, "."), whole(3, 5))
	expect(t, "1 .5", whole(0, 1), sign(2, "."), whole(3, 5))
	expect(t, "1. 5", whole(0, 1), sign(1, "."), whole(3, 5))
	expect(t, "1.a", whole(0, 1), sign(1, "."), atom(2, "a"))
	expect(t, "1.X", whole(0, 1), sign(1, "."), variable(2, "X"))
	expect(t, "1.-5", whole(0, 1), sign(1, "."), sign(2, "-"), whole(3, 5))
	expect(t, "1.%5", whole(0, 1), sign(1, "."))
	expect(t, ".5", sign(0, "."), whole(1, 5))
	expect(t, "a.5", atom(0, "a"), sign(1, "."), whole(2, 5))
	expect(t, "0.", whole(0, 0), sign(1, "."))
	expect(t, "1.2.3.4", float(0, 1.2), sign(3, "."), float(4, 3.4))
	expect(t, "1.05.1", float(0, 1.05), sign(4, "."), whole(5, 1))
	expectFault(t, "1.2.03", api.ErrNumber, 4)
	expectFault(t, "00.", api.ErrNumber, 0)
	for _, c := range eachByte() {
		if !strings.Contains(decimals, c) {
			likeOracle(t, "1."+c)
			likeOracle(t, "1.5"+c)
			likeOracle(t, "1"+c+"5")
		}
	}
}

// Fifteen digits at most, wherever the point stands.
func TestP502FloatDigits(t *testing.T) {
	for n := 2; n <= 40; n++ {
		digits := strings.Repeat("123456789", 5)[:n]
		for k := 1; k < n; k++ {
			for _, s := range []string{digits[:k] + "." + digits[k:], "1" + strings.Repeat("0", k-1) + "." + strings.Repeat("0", n-k)} {
				if n > 15 {
					expectFault(t, s, api.ErrNumber, 0)
					expectFault(t, "a("+s+")", api.ErrNumber, 2)
					continue
				}
				f, err := strconv.ParseFloat(s, 64)
				if err != nil {
					t.Fatal(err)
				}
				expect(t, s, float(0, f))
			}
		}
	}
	expectFault(t, "0.000000000000001", api.ErrNumber, 0)
	expectFault(t, "0.000000000000000", api.ErrNumber, 0)
	expectFault(t, "1."+strings.Repeat("0", 65534), api.ErrNumber, 0)
	expectFault(t, strings.Repeat("1", 65534)+".5", api.ErrNumber, 0)
}

// The value is rounded once: it is the float nearest to what is written.
func TestP501FloatsRound(t *testing.T) {
	r := rand.New(rand.NewSource(501))
	for range 20000 {
		digits := strconv.Itoa(r.Intn(999999999999999) + 10)
		k := 1 + r.Intn(len(digits)-1)
		s := digits[:k] + "." + digits[k:]
		exact, is := new(big.Rat).SetString(s)
		if !is {
			t.Fatal(s)
		}
		f, _ := exact.Float64()
		expect(t, s, float(0, f))
	}
}

func TestP501Bits(t *testing.T) {
	for _, u := range []uint64{
		0, 1, 1 << 63, 1<<63 + 1, 0x3ff8000000000000, 0x0123456789abcdef, 0xc0de00000000f00d, 0x7fefffffffffffff, 0xffefffffffffffff, 0x000fffffffffffff, 0x0010000000000000, 0x8010000000000000,
	} {
		s := fmt.Sprintf("#%016x", u)
		f := math.Float64frombits(u)
		expect(t, s, float(0, f))
		expect(t, "-"+s+".", sign(0, "-"), float(1, f), sign(18, "."))
		expect(t, s+"1", float(0, f), whole(17, 1))
		expect(t, s+"a", float(0, f), atom(17, "a"))
		expect(t, s+"F", float(0, f), variable(17, "F"))
		expect(t, s+s, float(0, f), float(17, f))
		expect(t, s+".5", float(0, f), sign(17, "."), whole(18, 5))
		expectFault(t, s+"01", api.ErrNumber, 17)
		expectFault(t, s+"#", api.ErrNumber, 17)
		for k := 1; k < len(s); k++ {
			expectFault(t, s[:k], api.ErrNumber, 0)
		}
	}
}

// Each byte at each place of the sixteen: only the digits 0 to 9, a to f may stand there.
func TestP502BitsDigits(t *testing.T) {
	const s = "0000000000000000"
	for k := range s {
		for _, c := range eachByte() {
			source := "#" + s[:k] + c + s[k+1:]
			v := strings.Index(hexes, c)
			if v < 0 {
				expectFault(t, source, api.ErrNumber, 0)
				expectFault(t, "a "+source, api.ErrNumber, 2)
				continue
			}
			expect(t, source, float(0, math.Float64frombits(uint64(v)<<(60-4*k))))
		}
	}
}

// The infinities and what is no number are no floats (W1).
func TestP502NoFloats(t *testing.T) {
	for _, s := range []string{
		"7ff0000000000000", "fff0000000000000", "7ff0000000000001", "7ff8000000000000", "7ff8000000000001", "fff8000000000000", "7fffffffffffffff", "ffffffffffffffff", "fff0000000000001",
	} {
		expectFault(t, "#"+s, api.ErrNumber, 0)
		expectFault(t, "[#"+s+"]", api.ErrNumber, 1)
		expectFault(t, "#"+strings.ToUpper(s), api.ErrNumber, 0)
	}
	for _, s := range []string{"#", "# 3ff8000000000000", "#-3ff800000000000", "#3ff8 00000000000", "#3FF8000000000000", "#3ff800000000000A", "#3ff800000000000g", "#0x3ff80000000000", "##3ff8000000000000", "#_", "#Ref1", "#Pid1", "#Fun1", "#3ff80000%\n00000000"} {
		expectFault(t, s, api.ErrNumber, 0)
	}
}
