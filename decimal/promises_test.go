package decimal_test

import (
	"math/big"
	"strings"
	"testing"

	"relucert/api"
	"relucert/decimal"
	"relucert/natural"
	"relucert/rational"
	"relucert/sample"
)

// P4.2
func TestNumbersFromTheirTexts(t *testing.T) {
	for _, x := range numbers() {
		if y := parsed(t, decimal.Text(x)); !sample.SameRat(x, y) {
			t.Errorf("Parse of the text of %v: %v", x, y)
		}
	}
}

// P4.2, at the limit: the texts have as many digits as a number may have.
func TestRoundTripAtTheLimit(t *testing.T) {
	half := strings.Repeat("1", api.MaxDigits/2)
	for _, s := range []string{
		strings.Repeat("9", api.MaxDigits), "1" + strings.Repeat("0", api.MaxDigits-1), "1/1" + strings.Repeat("0", api.MaxDigits-2), strings.Repeat("7", api.MaxDigits-1) + "/2", half + "/1" + half[2:] + "0",
	} {
		for _, sign := range []string{"", "-"} {
			if got := decimal.Text(parsed(t, sign+s)); got != sign+s {
				t.Errorf("Text of the number of %q: %q", short(sign+s), short(got))
			}
		}
	}
}

// P4.2: texts with more digits are not parsed, even if they are those of parsed numbers.
func TestTextsBeyondTheLimit(t *testing.T) {
	longest := parsed(t, strings.Repeat("9", api.MaxDigits))
	least := parsed(t, "0."+strings.Repeat("0", api.MaxDigits-2)+"1")
	for _, x := range []api.Rat{rational.Mul(longest, rational.Of(10)), least} {
		for _, y := range []api.Rat{x, rational.Neg(x)} {
			s := decimal.Text(y)
			expectError(t, s, len(s)-1, api.ErrLimit)
		}
	}
}

// P4.2: other texts of a number have the same text as it.
func TestTextsOfParsedNumbers(t *testing.T) {
	for _, x := range []struct{ text, want string }{
		{"-0", "0"}, {"-0/7", "0"}, {"-0.00", "0"}, {"0010", "10"}, {"-0010", "-10"}, {"6/4", "3/2"}, {"-06/04", "-3/2"}, {"8/4", "2"}, {"2.50", "5/2"}, {"-0.125", "-1/8"}, {"12.00", "12"}, {"1000000000/3000000000", "1/3"},
	} {
		y := parsed(t, x.text)
		if s := decimal.Text(y); s != x.want || !sample.SameRat(parsed(t, s), y) {
			t.Errorf("Text of the number of %q: %q", x.text, s)
		}
	}
	r := sample.Random(362436069)
	for range 2000 {
		s := sampleText(&r)
		y := parsed(t, s)
		if !sample.SameRat(parsed(t, decimal.Text(y)), y) {
			t.Errorf("the text of the number of %q is %q", s, decimal.Text(y))
		}
	}
}

// sampleText returns a correct text in any form of the grammar.
func sampleText(r *sample.Random) string {
	s := strings.Repeat("-", r.Below(2)) + sampleDigits(r)
	switch r.Below(3) {
	case 0:
		return s + "." + sampleDigits(r)
	case 1:
		return s + "/" + sampleDigits(r) + "1"
	}
	return s
}

// sampleDigits returns one digit or more, many of which are 0.
func sampleDigits(r *sample.Random) string {
	var out []byte
	for range 1 + r.Below(30) {
		out = append(out, "00001234567899"[r.Below(14)])
	}
	return string(out)
}

// P4.3
func TestRoundingError(t *testing.T) {
	for _, x := range numbers() {
		for _, digits := range []int{0, 1, 2, 9, 10, 40} {
			rounded, _ := new(big.Rat).SetString(fixed(t, x, digits))
			unit := new(big.Int).Exp(big.NewInt(10), big.NewInt(int64(digits)), nil)
			half := new(big.Rat).SetFrac(big.NewInt(1), unit.Lsh(unit, 1))
			distance := new(big.Rat).Sub(value(x), rounded)
			if distance.Abs(distance).Cmp(half) > 0 {
				t.Errorf("Fixed of %v with %d digits is %v, which is too far", x, digits, rounded)
			}
		}
	}
}

// P4.3
func TestExactDecimalFractions(t *testing.T) {
	for _, s := range []string{"0", "1", "-1", "0.5", "-0.5", "0.25", "-12.375", "0.001", "-0.0000000001", "123456789.987654321", "-999999999.999999999", "1000000000.0000000001"} {
		x := parsed(t, s)
		_, places, _ := strings.Cut(s, ".")
		for _, more := range []int{0, 1, 9, 100} {
			text := fixed(t, x, len(places)+more)
			if !sample.SameRat(parsed(t, text), x) || len(places) > 0 && text != s+strings.Repeat("0", more) {
				t.Errorf("Fixed of %s with %d more digits: %s", s, more, text)
			}
		}
	}
	for _, sixes := range []int{0, 1, 2, 20, api.MaxDigits - 3} {
		places := strings.Repeat("6", sixes) + "5"
		x := parsed(t, "-7."+places)
		if text := fixed(t, x, len(places)); text != "-7."+places {
			t.Errorf("Fixed of -7.%s: %s", short(places), short(text))
		}
		x = rational.Mul(x, frac(t, 1, 10))
		if text := fixed(t, x, len(places)+1); text != "-0.7"+places {
			t.Errorf("Fixed of -0.7%s: %s", short(places), short(text))
		}
	}
}

// P4.3: a fraction with the greatest number of places, which Parse does not accept.
func TestMostPlaces(t *testing.T) {
	want := "0.1" + strings.Repeat("6", api.MaxDigits-2) + "5"
	x := rational.Mul(parsed(t, "1."+want[3:]), frac(t, 1, 10))
	if text := fixed(t, x, api.MaxDigits); text != want {
		t.Errorf("Fixed: %s, want %s", short(text), short(want))
	}
}

// P1: the calls terminate for texts of any bytes.
func TestAnyText(t *testing.T) {
	number := grammar()
	r := sample.Random(2463534242)
	for i := range 20000 {
		out := make([]byte, r.Below(12))
		for k := range out {
			out[k] = byte(r.Below(256))
			if i%2 == 0 {
				out[k] = "0123456789--/."[r.Below(14)]
			}
		}
		testParse(t, number, string(out))
	}
}

// P1: the errors of long texts are found in time.
func TestLongTexts(t *testing.T) {
	const length = 1 << 24
	for _, c := range []string{"7", "0"} {
		digits := strings.Repeat(c, length)
		expectError(t, digits, api.MaxDigits, api.ErrLimit)
		expectError(t, "-"+digits, api.MaxDigits+1, api.ErrLimit)
		expectError(t, "1/"+digits, api.MaxDigits+1, api.ErrLimit)
		expectError(t, "1."+digits, api.MaxDigits+1, api.ErrLimit)
	}
	for _, c := range []string{"/", ".", "x", "\x00"} {
		expectError(t, strings.Repeat(c, length), 0, api.ErrSyntax)
	}
	expectError(t, strings.Repeat("-", length), 1, api.ErrSyntax)
}

// P1: the calls terminate for numbers far beyond those that can be parsed.
func TestLargeNumbers(t *testing.T) {
	r := sample.Random(521288629)
	for _, limbs := range []int{600, 3000} {
		x := rational.Canon(api.Rat{Neg: true, Num: r.Nat(limbs), Den: r.Nat(limbs - 1)})
		if s, want := decimal.Text(x), value(x).RatString(); s != want {
			t.Errorf("Text of a number of %d limbs: %q, want %q", limbs, short(s), short(want))
		}
		testFixed(t, x, 0)
		testFixed(t, x, api.MaxDigits)
	}
	tiny := api.Rat{Neg: true, Num: natural.Of(1), Den: r.Nat(3000)}
	testFixed(t, tiny, api.MaxDigits)
}

// P1: the calls terminate without a panic for numbers that are not canonical, too.
func TestOtherNumbers(t *testing.T) {
	for _, x := range []api.Rat{
		{Neg: true}, {Den: api.Nat{0}}, {Num: api.Nat{1}, Den: api.Nat{0, 0}}, {Num: api.Nat{0, 0}, Den: api.Nat{3}}, {Neg: true, Num: api.Nat{6, 0}, Den: api.Nat{8, 0}}, {Num: api.Nat{5}, Den: api.Nat{1}}, {Neg: true, Num: api.Nat{0}, Den: api.Nat{0}},
	} {
		decimal.Text(x)
		for _, digits := range []int{-1, 0, 1, api.MaxDigits, api.MaxDigits + 1} {
			decimal.Fixed(x, digits)
		}
	}
}
