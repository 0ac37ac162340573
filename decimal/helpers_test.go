package decimal_test

import (
	"math/big"
	"regexp"
	"strings"
	"testing"

	"relucert/api"
	"relucert/decimal"
	"relucert/natural"
	"relucert/rational"
	"relucert/sample"
)

// numbers returns canonical numbers of both signs: small ones, ones around powers of ten and of two, and some more.
func numbers() []api.Rat {
	var out []api.Rat
	for num := -30; num <= 30; num++ {
		for den := 1; den <= 12; den++ {
			x, _ := rational.Frac(num, den)
			out = append(out, x)
		}
	}
	parts := magnitudes()
	for i, num := range parts {
		for j, den := range parts {
			out = append(out, rational.Canon(api.Rat{Neg: (i+j)%2 == 1, Num: num, Den: den}))
		}
	}
	return out
}

// magnitudes returns natural numbers around powers of ten, where digits and groups of them begin and end, and of two, where limbs do, and some more.
func magnitudes() []api.Nat {
	one, power := natural.Of(1), natural.Of(1)
	var out []api.Nat
	for k := range 30 {
		if k < 3 || k%9 < 2 || k%9 == 8 {
			below, _ := natural.Sub(power, one)
			out = append(out, below, power, natural.Add(power, natural.Of(7)))
		}
		power = natural.Mul(power, natural.Of(10))
	}
	for _, k := range []int{31, 32, 64, 96} {
		power, _ := natural.Shl(one, k)
		out = append(out, power)
	}
	r := sample.Random(88172645463325252)
	for i := range 8 {
		out = append(out, r.Nat(1+i))
	}
	return out
}

// magnitude returns the number of limbs, by the definition.
func magnitude(n api.Nat) *big.Int {
	return new(big.Int).SetBytes(sample.Bytes(n))
}

// value returns a canonical number, by the definition.
func value(x api.Rat) *big.Rat {
	num, den := magnitude(x.Num), big.NewInt(1)
	if x.Neg {
		num.Neg(num)
	}
	if len(x.Den) > 0 {
		den = magnitude(x.Den)
	}
	return new(big.Rat).SetFrac(num, den)
}

// frac returns a quotient.
func frac(t *testing.T, a, b int) api.Rat {
	t.Helper()
	x, e := rational.Frac(a, b)
	if e != api.OK {
		t.Fatalf("Frac of %d and %d: error %d", a, b, e)
	}
	return x
}

// parsed returns the number of a text without an error.
func parsed(t *testing.T, s string) api.Rat {
	t.Helper()
	x, offset, e := decimal.Parse(s)
	if offset != 0 || e != api.OK || !rational.Valid(x) {
		t.Fatalf("Parse of %q: %v, offset %d, error %d", short(s), x, offset, e)
	}
	return x
}

// expectValue checks that a text is parsed as a number.
func expectValue(t *testing.T, s string, want *big.Rat) {
	t.Helper()
	if x := parsed(t, s); value(x).Cmp(want) != 0 {
		t.Errorf("Parse of %q: got %v, want %v", short(s), value(x), want)
	}
}

// expectError checks that Parse returns an error and its offset.
func expectError(t *testing.T, s string, offset int, want api.Errno) {
	t.Helper()
	x, at, e := decimal.Parse(s)
	if at != offset || e != want || !sample.SameRat(x, api.Rat{}) {
		t.Errorf("Parse of %q: got %v, offset %d, error %d, want offset %d, error %d", short(s), x, at, e, offset, want)
	}
}

// short returns a text, or its ends if it is long.
func short(s string) string {
	if len(s) <= 80 {
		return s
	}
	return s[:40] + "..." + s[len(s)-40:]
}

// fixed is Fixed for arguments without an error.
func fixed(t *testing.T, x api.Rat, digits int) string {
	t.Helper()
	s, e := decimal.Fixed(x, digits)
	if e != api.OK {
		t.Fatalf("Fixed of %v with %d digits: error %d", x, digits, e)
	}
	return s
}

// grammar returns the pattern of all texts of numbers.
func grammar() *regexp.Regexp {
	return regexp.MustCompile(`^-?[0-9]+([/.][0-9]+)?$`)
}

// syntaxOffset returns the offset of the error in the syntax of a text, by the definition, and -1 if there is none.
func syntaxOffset(number *regexp.Regexp, s string) int {
	for i := range len(s) {
		// In front of each end of a number, a digit could follow.
		if !number.MatchString(s[:i+1] + "0") {
			return i
		}
	}
	if !number.MatchString(s) {
		return len(s)
	}
	return -1
}

// testParse compares Parse with the definition, for a text without too many digits.
func testParse(t *testing.T, number *regexp.Regexp, s string) {
	t.Helper()
	if offset := syntaxOffset(number, s); offset >= 0 {
		expectError(t, s, offset, api.ErrSyntax)
		return
	}
	num, den := s, "1"
	if before, behind, ok := strings.Cut(s, "/"); ok {
		num, den = before, behind
	}
	if before, behind, ok := strings.Cut(s, "."); ok {
		num, den = before+behind, "1"+strings.Repeat("0", len(behind))
	}
	if strings.Trim(den, "0") == "" {
		expectError(t, s, strings.Index(s, "/")+1, api.ErrDivide)
		return
	}
	expectValue(t, s, new(big.Rat).SetFrac(whole(num), whole(den)))
}

// whole returns the integer of a text.
func whole(s string) *big.Int {
	v, ok := new(big.Int).SetString(s, 10)
	if !ok {
		panic(s)
	}
	return v
}
