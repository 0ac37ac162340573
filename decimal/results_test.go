package decimal_test

import (
	"math"
	"math/big"
	"strings"
	"testing"

	"relucert/api"
	"relucert/decimal"
)

// The tests of this file belong to P4.1: every function returns the specified result.

func TestText(t *testing.T) {
	for _, x := range []struct {
		num, den int
		want     string
	}{
		{0, 1, "0"}, {1, 1, "1"}, {-1, 1, "-1"}, {10, 1, "10"}, {-1200, 1, "-1200"}, {1, 2, "1/2"}, {-22, 7, "-22/7"}, {3, 100, "3/100"}, {-100, 3, "-100/3"},
		{999999999, 1000000000, "999999999/1000000000"}, {-1000000000, 999999999, "-1000000000/999999999"}, {1000000001000000000, 1, "1000000001000000000"},
	} {
		if s := decimal.Text(frac(t, x.num, x.den)); s != x.want {
			t.Errorf("Text of %d/%d: %q", x.num, x.den, s)
		}
	}
	if s := decimal.Text(api.Rat{}); s != "0" {
		t.Errorf("Text of the zero value: %q", s)
	}
	for _, x := range numbers() {
		if s, want := decimal.Text(x), value(x).RatString(); s != want {
			t.Errorf("Text of %v: %q, want %q", x, s, want)
		}
	}
}

func TestParseForms(t *testing.T) {
	for _, x := range []struct {
		text     string
		num, den int64
	}{
		{"0", 0, 1}, {"7", 7, 1}, {"42", 42, 1}, {"-42", -42, 1}, {"9876543210", 9876543210, 1}, {"-1000000000", -1000000000, 1},
		{"0007", 7, 1}, {"-0007", -7, 1}, {"000", 0, 1}, {"-0", 0, 1}, {"-000", 0, 1}, {"00000000000000000000000000001", 1, 1},
		{"3/4", 3, 4}, {"-3/4", -3, 4}, {"6/8", 3, 4}, {"-6/8", -3, 4}, {"8/4", 2, 1}, {"-8/4", -2, 1}, {"010/008", 5, 4}, {"-010/008", -5, 4},
		{"0/9", 0, 1}, {"-0/9", 0, 1}, {"5/1", 5, 1}, {"-5/01", -5, 1}, {"1/1000000001", 1, 1000000001},
		{"0.5", 1, 2}, {"-0.5", -1, 2}, {"1.0", 1, 1}, {"-1.0", -1, 1}, {"00.050", 1, 20}, {"-00.050", -1, 20}, {"12.375", 99, 8}, {"-12.375", -99, 8},
		{"0.0", 0, 1}, {"-0.0", 0, 1}, {"-0.000", 0, 1}, {"3.0000000001", 30000000001, 10000000000}, {"-123456789.987654321", -123456789987654321, 1000000000},
	} {
		expectValue(t, x.text, big.NewRat(x.num, x.den))
	}
}

func TestParseSyntaxErrors(t *testing.T) {
	for _, x := range []struct {
		text   string
		offset int
	}{
		{"", 0}, {"-", 1}, {"1/", 2}, {"-1/", 3}, {"1.", 2}, {"-12.", 4}, {"x", 0}, {" 1", 0}, {"1 ", 1}, {"+1", 0}, {"--1", 1}, {"-+1", 1}, {"1-", 1},
		{".5", 0}, {"-.5", 1}, {"/5", 0}, {"-/5", 1}, {"1/-2", 2}, {"1/+2", 2}, {"1.-2", 2}, {"1//2", 2}, {"1..2", 2}, {"1./2", 2}, {"1/.2", 2},
		{"1/2/3", 3}, {"1/2.3", 3}, {"1.2/3", 3}, {"1.2.3", 3}, {"1e3", 1}, {"0x1", 1}, {"1_000", 1}, {"1,5", 1}, {"12/34\n", 5}, {"1\x00", 1}, {"\xff", 0}, {"1.2\xc3\xa9", 3}, {"٣", 0}, {"1/٣", 2},
		{"1:", 1}, {"1/2:", 3}, {"1.2:", 3}, {":", 0},
	} {
		expectError(t, x.text, x.offset, api.ErrSyntax)
	}
}

// Among several errors, that with the least offset is returned, and a denominator 0 only if there is no other one.
func TestParseSeveralErrors(t *testing.T) {
	nines := strings.Repeat("9", api.MaxDigits)
	for _, x := range []struct {
		text   string
		offset int
		want   api.Errno
	}{
		{"1/0", 2, api.ErrDivide}, {"-1/0", 3, api.ErrDivide}, {"0/0", 2, api.ErrDivide}, {"-0/0", 3, api.ErrDivide}, {"12/000", 3, api.ErrDivide},
		{"1/0x", 3, api.ErrSyntax}, {"1/0/0", 3, api.ErrSyntax}, {"1/0.", 3, api.ErrSyntax}, {"1/00-", 4, api.ErrSyntax}, {"x1/0", 0, api.ErrSyntax}, {"1x/0", 1, api.ErrSyntax}, {"/0", 0, api.ErrSyntax},
		{"a" + nines + "1", 0, api.ErrSyntax}, {"1-" + nines, 1, api.ErrSyntax}, {"/" + nines + "1", 0, api.ErrSyntax},
		{nines + "x", api.MaxDigits, api.ErrSyntax}, {nines + "1x", api.MaxDigits, api.ErrLimit}, {nines + "1.", api.MaxDigits, api.ErrLimit},
		{nines + "1/0", api.MaxDigits, api.ErrLimit}, {nines + "/0", api.MaxDigits + 1, api.ErrLimit}, {nines + "/x0", api.MaxDigits + 1, api.ErrSyntax},
		{nines + "/", api.MaxDigits + 1, api.ErrSyntax}, {nines + ".", api.MaxDigits + 1, api.ErrSyntax},
	} {
		expectError(t, x.text, x.offset, x.want)
	}
}

// All texts of up to six bytes that can occur in numbers, and another byte.
func TestParseShortTexts(t *testing.T) {
	number := grammar()
	texts := []string{""}
	for range 7 {
		var longer []string
		for _, s := range texts {
			testParse(t, number, s)
			if len(s) == 6 {
				continue
			}
			for _, c := range "026-/.x" {
				longer = append(longer, s+string(c))
			}
		}
		texts = longer
	}
}

// Every byte, instead of and in front of each byte of a number, and behind it.
func TestParseOtherBytes(t *testing.T) {
	number := grammar()
	for _, s := range []string{"120", "-120", "12/340", "-12/340", "12.340", "-12.340"} {
		for i := range len(s) + 1 {
			for c := range 256 {
				other := string([]byte{byte(c)})
				testParse(t, number, s[:i]+other+s[i:])
				if i < len(s) {
					testParse(t, number, s[:i]+other+s[i+1:])
				}
			}
		}
	}
}

// Texts with groups of digits of all lengths, with leading zeros and zeros within.
func TestParseLongNumbers(t *testing.T) {
	number := grammar()
	digits := "00000000012345678900000000098765432100000000055512"
	for i := range len(digits) {
		for _, sign := range []string{"", "-"} {
			head, tail := digits[:i+1], digits[i:]
			for _, s := range []string{head, tail, head + "/" + tail, tail + "/" + head, head + "." + tail, tail + "." + head} {
				testParse(t, number, sign+s)
			}
		}
	}
}

func TestDigitLimit(t *testing.T) {
	for _, sign := range []string{"", "-"} {
		for _, separator := range []string{"/", "."} {
			for _, before := range []int{1, 2, 1999, 2000, api.MaxDigits - 1, api.MaxDigits} {
				testLimit(t, sign+strings.Repeat("7", before)+separator, api.MaxDigits-before)
			}
		}
		testLimit(t, sign, api.MaxDigits)
		testLimit(t, sign+"000", api.MaxDigits-3)
	}
}

// testLimit appends digits to a text with so many digits less than the limit: just up to the limit, and beyond it.
func testLimit(t *testing.T, text string, left int) {
	t.Helper()
	digits := strings.Repeat("3", left)
	if left > 0 {
		testNumber(t, text+digits)
		testNumber(t, text+strings.Repeat("0", left-1)+"1")
	}
	for _, more := range []string{"3", "0", "33333", "3x", "3/3", strings.Repeat("3", 5000)} {
		expectError(t, text+digits+more, len(text)+left, api.ErrLimit)
	}
}

// testNumber compares the number of a correct text with the definition.
func testNumber(t *testing.T, s string) {
	t.Helper()
	if num, places, ok := strings.Cut(s, "."); ok {
		unit := new(big.Int).Exp(big.NewInt(10), big.NewInt(int64(len(places))), nil)
		expectValue(t, s, new(big.Rat).SetFrac(whole(num+places), unit))
		return
	}
	num, den, ok := strings.Cut(s, "/")
	if !ok {
		den = "1"
	}
	expectValue(t, s, new(big.Rat).SetFrac(whole(num), whole(den)))
}

// A denominator of zeros only counts as 0 if it is not too long.
func TestZeroDenominators(t *testing.T) {
	zeros := strings.Repeat("0", api.MaxDigits-1)
	expectError(t, "5/"+zeros, 2, api.ErrDivide)
	expectError(t, "-5/"+zeros, 3, api.ErrDivide)
	expectError(t, "5/"+zeros+"0", 2+len(zeros), api.ErrLimit)
	expectError(t, "5/"+zeros+"x", 2+len(zeros), api.ErrSyntax)
}

func TestFixed(t *testing.T) {
	for _, x := range []struct {
		num, den, digits int
		want             string
	}{
		{0, 1, 0, "0"}, {0, 1, 3, "0.000"}, {7, 1, 0, "7"}, {-7, 1, 0, "-7"}, {7, 1, 2, "7.00"}, {-7, 1, 2, "-7.00"}, {1234, 1, 1, "1234.0"},
		{1, 2, 0, "1"}, {-1, 2, 0, "-1"}, {3, 2, 0, "2"}, {-3, 2, 0, "-2"}, {5, 2, 0, "3"}, {-5, 2, 0, "-3"}, {1, 20, 1, "0.1"}, {-1, 20, 1, "-0.1"}, {3, 8, 2, "0.38"}, {-3, 8, 2, "-0.38"}, {1, 8, 2, "0.13"},
		{49, 100, 0, "0"}, {-49, 100, 0, "0"}, {51, 100, 0, "1"}, {-51, 100, 0, "-1"}, {1, 1001, 2, "0.00"}, {-4, 1000, 2, "0.00"}, {-5, 1000, 2, "-0.01"}, {-1, 3, 0, "0"},
		{1, 3, 5, "0.33333"}, {-2, 3, 5, "-0.66667"}, {22, 7, 10, "3.1428571429"}, {999, 1000, 2, "1.00"}, {-9999, 1000, 2, "-10.00"}, {99, 10, 0, "10"}, {1, 100, 2, "0.01"}, {-12345, 1000, 3, "-12.345"},
	} {
		if s := fixed(t, frac(t, x.num, x.den), x.digits); s != x.want {
			t.Errorf("Fixed of %d/%d with %d digits: %q, want %q", x.num, x.den, x.digits, s, x.want)
		}
	}
}

func TestFixedOfManyNumbers(t *testing.T) {
	for _, x := range numbers() {
		for _, digits := range []int{0, 1, 2, 3, 8, 9, 10, 28, 61} {
			testFixed(t, x, digits)
		}
	}
	for _, x := range numbers()[:40] {
		testFixed(t, x, api.MaxDigits-1)
		testFixed(t, x, api.MaxDigits)
	}
}

// testFixed compares Fixed with the same rounding of package big, which keeps the sign of a number that is rounded to 0.
func testFixed(t *testing.T, x api.Rat, digits int) {
	t.Helper()
	want := value(x).FloatString(digits)
	if strings.Trim(want, "-0.") == "" {
		want = strings.TrimPrefix(want, "-")
	}
	if s := fixed(t, x, digits); s != want {
		t.Errorf("Fixed of %v with %d digits: %q, want %q", x, digits, short(s), short(want))
	}
}

func TestFixedRange(t *testing.T) {
	for _, x := range numbers()[:40] {
		for _, digits := range []int{-1, -2, math.MinInt, api.MaxDigits + 1, api.MaxDigits + 2, math.MaxInt} {
			if s, e := decimal.Fixed(x, digits); s != "" || e != api.ErrRange {
				t.Errorf("Fixed of %v with %d digits: %q, error %d", x, digits, s, e)
			}
		}
	}
}

// The chapter's examples.
func TestExamples(t *testing.T) {
	if s := decimal.Text(frac(t, -6, 8)); s != "-3/4" {
		t.Errorf("Text: %q", s)
	}
	expectValue(t, "0.125", big.NewRat(1, 8))
	expectValue(t, "-010/4", big.NewRat(-5, 2))
	expectError(t, "1/", 2, api.ErrSyntax)
	expectError(t, "1/0", 2, api.ErrDivide)
	expectError(t, "+1", 0, api.ErrSyntax)
	expectError(t, ".5", 0, api.ErrSyntax)
	for _, x := range []struct {
		num, den, digits int
		want             string
	}{{-1, 8, 2, "-0.13"}, {-1, 1000, 2, "0.00"}, {5, 2, 0, "3"}} {
		if s := fixed(t, frac(t, x.num, x.den), x.digits); s != x.want {
			t.Errorf("Fixed of %d/%d with %d digits: %q", x.num, x.den, x.digits, s)
		}
	}
}
