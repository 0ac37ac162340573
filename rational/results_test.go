package rational_test

import (
	"math"
	"math/big"
	"slices"
	"testing"

	"relucert/api"
	"relucert/rational"
	"relucert/sample"
)

// The tests of this file belong to P3.1: every function returns the specified result. Those of Simplest have a file of their own.

// integers returns integers that are not all canonical.
func integers() []api.Int {
	return []api.Int{
		{}, {Neg: true}, {Mag: api.Nat{0, 0}}, {Neg: true, Mag: api.Nat{0}}, {Mag: api.Nat{1}}, {Neg: true, Mag: api.Nat{1, 0}}, {Mag: api.Nat{6}}, {Neg: true, Mag: api.Nat{4}},
		{Mag: api.Nat{9, 0, 0}}, {Neg: true, Mag: api.Nat{0, 3}}, {Mag: api.Nat{0, 0, 6, 0}}, {Neg: true, Mag: api.Nat{1<<32 - 1, 1<<32 - 1}}, {Mag: api.Nat{1, 0, 1<<32 - 2, 1<<32 - 1}},
	}
}

func TestMake(t *testing.T) {
	for _, num := range integers() {
		for _, den := range integers() {
			got, e := rational.Make(num, den)
			x, y := value(api.Rat{Neg: num.Neg, Num: num.Mag}), value(api.Rat{Neg: den.Neg, Num: den.Mag})
			testQuotient(t, "Make", got, e, x, y)
		}
	}
}

// testQuotient checks the result of a division, which returns an error and a zero value if the divisor is 0.
func testQuotient(t *testing.T, what string, got api.Rat, e api.Errno, x, y *big.Rat) {
	t.Helper()
	if y.Sign() == 0 {
		equal(t, what+" by 0", got, api.Rat{})
		if e != api.ErrDivide {
			t.Errorf("%s of %v and 0: error %d", what, x, e)
		}
		return
	}
	expect(t, what, got, new(big.Rat).Quo(x, y))
	if e != api.OK {
		t.Errorf("%s of %v and %v: error %d", what, x, y, e)
	}
}

func TestCanonAndValid(t *testing.T) {
	for _, x := range numbers() {
		for _, form := range sample.Forms(x) {
			equal(t, "Canon", rational.Canon(form), x)
			if rational.Valid(form) != sample.SameRat(form, x) {
				t.Errorf("Valid of %v: %v", form, rational.Valid(form))
			}
		}
	}
}

// Each of these values breaks one condition of the canonical form.
func TestNotValid(t *testing.T) {
	for _, x := range []api.Rat{
		{Num: api.Nat{0}}, {Num: api.Nat{5, 0}}, {Num: api.Nat{5}, Den: api.Nat{0}}, {Num: api.Nat{5}, Den: api.Nat{3, 0}},
		{Num: api.Nat{5}, Den: api.Nat{1}}, {Den: api.Nat{1}}, {Den: api.Nat{3}}, {Neg: true}, {Neg: true, Den: api.Nat{3}},
		{Num: api.Nat{6}, Den: api.Nat{4}}, {Num: api.Nat{5}, Den: api.Nat{5}}, {Neg: true, Num: api.Nat{3}, Den: api.Nat{9}}, {Num: api.Nat{0, 1}, Den: api.Nat{0, 3}},
	} {
		if rational.Valid(x) {
			t.Errorf("%v is valid", x)
		}
	}
	for _, x := range []api.Rat{
		{}, {Num: api.Nat{}, Den: api.Nat{}}, {Num: api.Nat{1}}, {Neg: true, Num: api.Nat{5}, Den: api.Nat{}}, {Neg: true, Num: api.Nat{1}, Den: api.Nat{0, 1}}, {Num: api.Nat{9}, Den: api.Nat{4}},
	} {
		if !rational.Valid(x) {
			t.Errorf("%v is not valid", x)
		}
	}
}

func TestOfAndFrac(t *testing.T) {
	list := []int{0, 1, -1, 2, -2, 6, -9, 15, 1<<32 - 1, -1 << 32, 1 << 33, math.MaxInt, -math.MaxInt, math.MinInt}
	for _, a := range list {
		x := new(big.Rat).SetInt64(int64(a))
		expect(t, "Of", rational.Of(a), x)
		for _, b := range list {
			got, e := rational.Frac(a, b)
			testQuotient(t, "Frac", got, e, x, new(big.Rat).SetInt64(int64(b)))
		}
	}
}

func TestNumAndDen(t *testing.T) {
	for _, x := range numbers() {
		want := value(x)
		for _, form := range sample.Forms(x) {
			equalInt(t, "Num", rational.Num(form), want.Num())
			if den := rational.Den(form); !slices.Equal(den, limbs(want.Denom())) {
				t.Errorf("Den of %v: %v", form, den)
			}
		}
	}
	if den := rational.Den(api.Rat{}); !slices.Equal(den, api.Nat{1}) {
		t.Errorf("Den of 0: %v", den)
	}
}

func TestPairs(t *testing.T) {
	for _, x := range numbers() {
		for _, y := range numbers() {
			for _, a := range sample.Forms(x) {
				testPair(t, a, y)
				testPair(t, y, a)
			}
		}
	}
	for _, a := range sample.Forms(number("-7/2")) {
		for _, b := range append(sample.Forms(number("3")), sample.Forms(api.Rat{})...) {
			testPair(t, a, b)
			testPair(t, b, a)
		}
	}
}

// testPair compares all functions of two numbers with their definitions.
func testPair(t *testing.T, a, b api.Rat) {
	t.Helper()
	x, y := value(a), value(b)
	order := x.Cmp(y)
	if rational.Cmp(a, b) != order {
		t.Errorf("Cmp of %v and %v: %d", a, b, rational.Cmp(a, b))
	}
	expect(t, "Add", rational.Add(a, b), new(big.Rat).Add(x, y))
	expect(t, "Sub", rational.Sub(a, b), new(big.Rat).Sub(x, y))
	expect(t, "Mul", rational.Mul(a, b), new(big.Rat).Mul(x, y))
	lesser, greater := x, y
	if order > 0 {
		lesser, greater = y, x
	}
	expect(t, "Min", rational.Min(a, b), lesser)
	expect(t, "Max", rational.Max(a, b), greater)
	q, e := rational.Div(a, b)
	testQuotient(t, "Div", q, e, x, y)
}

func TestSingleNumbers(t *testing.T) {
	for _, x := range numbers() {
		v := value(x)
		// Euclid's division by a positive number rounds down.
		floor := new(big.Int).Div(v.Num(), v.Denom())
		for _, form := range sample.Forms(x) {
			if rational.Sign(form) != v.Sign() {
				t.Errorf("Sign of %v: %d", form, rational.Sign(form))
			}
			expect(t, "Neg", rational.Neg(form), new(big.Rat).Neg(v))
			equalInt(t, "Floor", rational.Floor(form), floor)
		}
	}
}

func TestFloor(t *testing.T) {
	for _, x := range []struct {
		text string
		want int64
	}{
		{"0", 0}, {"1/100", 0}, {"-1/100", -1}, {"99/100", 0}, {"-99/100", -1}, {"1", 1}, {"-1", -1}, {"7/2", 3}, {"-7/2", -4}, {"-3", -3}, {"-301/100", -4},
		{"4294967297/4294967296", 1}, {"-4294967297/4294967296", -2}, {"-1/340282366920938463463374607431768211456", -1},
	} {
		for _, form := range sample.Forms(number(x.text)) {
			equalInt(t, "Floor of "+x.text, rational.Floor(form), big.NewInt(x.want))
		}
	}
}

func TestExamples(t *testing.T) {
	equal(t, "1/2 + 1/3", rational.Add(number("1/2"), number("1/3")), api.Rat{Num: api.Nat{5}, Den: api.Nat{6}})
	equalInt(t, "Floor of -7/2", rational.Floor(number("-7/2")), big.NewInt(-4))
	equal(t, "3/10 to 2/5", simplest(t, number("3/10"), number("2/5")), api.Rat{Num: api.Nat{1}, Den: api.Nat{3}})
	equal(t, "-1/2 to 5", simplest(t, number("-1/2"), number("5")), api.Rat{})
	equal(t, "13/5 to 31/10", simplest(t, number("13/5"), number("31/10")), api.Rat{Num: api.Nat{3}})
	equal(t, "5/3 to 7/4", simplest(t, number("5/3"), number("7/4")), api.Rat{Num: api.Nat{5}, Den: api.Nat{3}})
}
