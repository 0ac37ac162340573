package rational_test

import (
	"math/big"
	"testing"

	"relucert/api"
	"relucert/rational"
	"relucert/sample"
)

// The tests of this file belong to P3.1, for Simplest.

// fractions returns all numbers from -most to most with denominators up to a limit.
func fractions(most, denominators int64) []*big.Rat {
	var out []*big.Rat
	for den := int64(1); den <= denominators; den++ {
		for num := -most * den; num <= most*den; num++ {
			if x := big.NewRat(num, den); x.Denom().Int64() == den {
				out = append(out, x)
			}
		}
	}
	return out
}

// within reports whether a number belongs to an interval.
func within(x, lo, hi *big.Rat) bool {
	return x.Cmp(lo) >= 0 && x.Cmp(hi) <= 0
}

// simplestByDefinition tries the denominators one after another, and for each of them the least absolute value first.
func simplestByDefinition(lo, hi *big.Rat) *big.Rat {
	for den := int64(1); ; den++ {
		x, y := new(big.Rat), new(big.Rat)
		for num := int64(0); x.Cmp(hi) <= 0 || y.Cmp(lo) >= 0; num++ {
			x, y = big.NewRat(num, den), big.NewRat(-num, den)
			switch {
			case within(x, lo, hi):
				return x
			case within(y, lo, hi):
				return y
			}
		}
	}
}

func TestSimplestOfSmallNumbers(t *testing.T) {
	list := fractions(3, 9)
	for _, lo := range list {
		for _, hi := range list {
			got, e := rational.Simplest(made(lo), made(hi))
			if lo.Cmp(hi) > 0 {
				equal(t, "Simplest of no interval", got, api.Rat{})
				if e != api.ErrRange {
					t.Errorf("Simplest from %v to %v: error %d", lo, hi, e)
				}
				continue
			}
			expect(t, "Simplest from "+lo.String()+" to "+hi.String(), got, simplestByDefinition(lo, hi))
			if e != api.OK {
				t.Errorf("Simplest from %v to %v: error %d", lo, hi, e)
			}
		}
	}
}

func TestSimplestOfTexts(t *testing.T) {
	for _, x := range []struct{ lo, hi, want string }{
		{"0", "0", "0"}, {"0", "5", "0"}, {"-5", "0", "0"}, {"-1/3", "1/1000000000000", "0"},
		{"1/1000000000000", "5", "1"}, {"-5", "-1/1000000000000", "-1"}, {"2", "9", "2"}, {"-9", "-2", "-2"}, {"21/10", "9", "3"}, {"-9", "-21/10", "-3"},
		{"3/2", "2", "2"}, {"-2", "-3/2", "-2"}, {"4294967295/2", "2147483648", "2147483648"}, {"18446744073709551615", "18446744073709551616", "18446744073709551615"},
		{"1/3", "2/3", "1/2"}, {"-2/3", "-1/3", "-1/2"}, {"1/4294967297", "1/4294967296", "1/4294967296"}, {"314159/100000", "31416/10000", "355/113"},
		{"-31416/10000", "-314159/100000", "-355/113"}, {"18446744073709551617/2", "36893488147419103235/4", "18446744073709551617/2"},
		{"55340232221128654849/3", "110680464442257309699/6", "36893488147419103233/2"},
	} {
		equal(t, x.lo+" to "+x.hi, simplest(t, number(x.lo), number(x.hi)), number(x.want))
	}
}

func TestSimplestOfForms(t *testing.T) {
	for _, x := range []struct{ lo, hi, want string }{
		{"3/10", "2/5", "1/3"}, {"-2/5", "-3/10", "-1/3"}, {"13/5", "31/10", "3"}, {"2", "2", "2"}, {"-5/3", "-5/3", "-5/3"}, {"0", "7", "0"}, {"-7/2", "0", "0"}, {"4294967297/4294967296", "3/2", "3/2"},
	} {
		for _, lo := range sample.Forms(number(x.lo)) {
			for _, hi := range sample.Forms(number(x.hi)) {
				equal(t, x.lo+" to "+x.hi, simplest(t, lo, hi), number(x.want))
			}
		}
	}
	for _, lo := range sample.Forms(number("1")) {
		for _, hi := range append(sample.Forms(number("2/3")), sample.Forms(api.Rat{})...) {
			if x, e := rational.Simplest(lo, hi); e != api.ErrRange || !sample.SameRat(x, api.Rat{}) {
				t.Errorf("Simplest of %v and %v: %v, error %d", lo, hi, x, e)
			}
		}
	}
}

func TestSimplestOfOneNumber(t *testing.T) {
	for _, x := range numbers() {
		for _, form := range sample.Forms(x) {
			equal(t, "Simplest of one number", simplest(t, form, x), x)
			equal(t, "Simplest of one number", simplest(t, x, form), x)
		}
	}
}

func TestSimplestOfLargeNumbers(t *testing.T) {
	r := sample.Random(2463534242)
	for i := range 2000 {
		lo := loose(&r, 1+i%6, i%7)
		width := loose(&r, 1+i%3, 1+i%11)
		width.Neg = false
		hi := rational.Add(lo, width)
		testSimplest(t, value(lo), value(hi), value(simplest(t, lo, hi)))
	}
}

// testSimplest checks that a number of an interval is the simplest one.
func testSimplest(t *testing.T, lo, hi, got *big.Rat) {
	t.Helper()
	if !within(got, lo, hi) {
		t.Errorf("%v does not lie from %v to %v", got, lo, hi)
	}
	simpler := []*big.Rat{new(big.Rat)}
	if got.IsInt() {
		simpler = append(simpler, new(big.Rat).Sub(got, big.NewRat(int64(got.Sign()), 1)))
	} else {
		simpler = append(simpler, neighbours(got)...)
	}
	for _, x := range simpler {
		if got.Sign() != 0 && within(x, lo, hi) {
			t.Errorf("from %v to %v: %v is simpler than %v", lo, hi, x, got)
		}
	}
}

// neighbours returns, of the numbers with lesser denominators than x, which is not an integer, the greatest one below x and the least one above it. Their distances from x are the inverses of the products of both denominators.
func neighbours(x *big.Rat) []*big.Rat {
	one, den := big.NewInt(1), x.Denom()
	below := new(big.Int).ModInverse(x.Num(), den)
	above := new(big.Int).Sub(den, below)
	distance := func(d *big.Int) *big.Rat { return new(big.Rat).SetFrac(one, new(big.Int).Mul(den, d)) }
	return []*big.Rat{new(big.Rat).Sub(x, distance(below)), new(big.Rat).Add(x, distance(above))}
}

// Quotients of successive Fibonacci numbers need the most steps, and quotients of great numbers the longest ones (P1).
func TestSimplestOfManySteps(t *testing.T) {
	a, b, c := big.NewInt(1), big.NewInt(1), big.NewInt(2)
	for range 20000 {
		a, b, c = b, c, a.Add(b, c)
	}
	x, y := made(new(big.Rat).SetFrac(b, a)), made(new(big.Rat).SetFrac(c, b))
	if rational.Cmp(x, y) > 0 {
		x, y = y, x
	}
	testSimplest(t, value(x), value(y), value(simplest(t, x, y)))
	testSimplest(t, value(rational.Neg(y)), value(rational.Neg(x)), value(simplest(t, rational.Neg(y), rational.Neg(x))))
	long := api.Rat{Num: append(make(api.Nat, 5000), 1), Den: append(make(api.Nat, 7), 3)}
	next := rational.Add(long, number("1/1000000007"))
	testSimplest(t, value(long), value(next), value(simplest(t, long, next)))
}
