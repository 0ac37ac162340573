package integer_test

import (
	"math"
	"math/big"
	"testing"

	"relucert/api"
	"relucert/integer"
)

// The tests of this file belong to P2.1: every function returns the specified result.

func TestMake(t *testing.T) {
	for _, x := range numbers() {
		for _, form := range forms(x) {
			equal(t, "Make", integer.Make(form.Neg, form.Mag), x)
		}
	}
	for _, mag := range []api.Nat{nil, {}, {0}, {0, 0, 0}} {
		equal(t, "Make of 0", integer.Make(false, mag), api.Int{})
		equal(t, "Make of a negative 0", integer.Make(true, mag), api.Int{})
	}
}

func TestValid(t *testing.T) {
	for _, x := range numbers() {
		for i, form := range forms(x) {
			if integer.Valid(form) != (i == 0) {
				t.Errorf("Valid of %v", form)
			}
		}
	}
	for _, x := range []api.Int{{Neg: true}, {Neg: true, Mag: api.Nat{}}, {Mag: api.Nat{0}}, {Neg: true, Mag: api.Nat{0}}, {Neg: true, Mag: api.Nat{5, 0}}} {
		if integer.Valid(x) {
			t.Errorf("%v is valid", x)
		}
	}
	if !integer.Valid(api.Int{Mag: api.Nat{}}) {
		t.Error("0 is not valid")
	}
}

func TestOfAndInt(t *testing.T) {
	for _, x := range []int{0, 1, -1, 2, -2, 255, -256, most, -most, 1 << 32, -1 << 32, 1<<32 + 5, 1<<62 - 1, math.MaxInt - 1, math.MaxInt, math.MinInt + 1, math.MinInt} {
		n := integer.Of(x)
		expect(t, "Of", n, big.NewInt(int64(x)))
		for _, form := range forms(n) {
			if back, ok := integer.Int(form); back != x || !ok {
				t.Errorf("Int of %v: %d, %v", form, back, ok)
			}
		}
	}
}

func TestIntOfAllNumbers(t *testing.T) {
	for _, x := range numbers() {
		want := value(x)
		for _, form := range forms(x) {
			got, ok := integer.Int(form)
			if ok != want.IsInt64() || ok && int64(got) != want.Int64() || !ok && got != 0 {
				t.Errorf("Int of %v: %d, %v", form, got, ok)
			}
		}
	}
}

func TestPairs(t *testing.T) {
	for _, x := range numbers() {
		for _, y := range numbers() {
			for _, a := range forms(x) {
				for _, b := range forms(y) {
					testPair(t, a, b)
				}
			}
		}
	}
}

// testPair compares all functions of one and of two numbers with their definitions.
func testPair(t *testing.T, a, b api.Int) {
	t.Helper()
	x, y := value(a), value(b)
	if integer.Cmp(a, b) != x.Cmp(y) {
		t.Errorf("Cmp of %v and %v: %d", a, b, integer.Cmp(a, b))
	}
	if integer.Sign(a) != x.Sign() {
		t.Errorf("Sign of %v: %d", a, integer.Sign(a))
	}
	expect(t, "Neg", integer.Neg(a), new(big.Int).Neg(x))
	expect(t, "Add", integer.Add(a, b), new(big.Int).Add(x, y))
	expect(t, "Sub", integer.Sub(a, b), new(big.Int).Sub(x, y))
	expect(t, "Mul", integer.Mul(a, b), new(big.Int).Mul(x, y))
	if y.Sign() == 0 {
		testNoQuotient(t, a, b)
		return
	}
	wantQ, wantR := new(big.Int).DivMod(x, y, new(big.Int))
	q, r := divMod(t, a, b)
	expect(t, "quotient", q, wantQ)
	expect(t, "remainder", r, wantR)
}

// testNoQuotient checks that a division by 0 returns its error, and zero values.
func testNoQuotient(t *testing.T, a, zero api.Int) {
	t.Helper()
	q, r, e := integer.DivMod(a, zero)
	if e != api.ErrDivide {
		t.Errorf("DivMod of %v and %v: error %d", a, zero, e)
	}
	equal(t, "quotient by 0", q, api.Int{})
	equal(t, "remainder by 0", r, api.Int{})
}

func TestDivisionBySigns(t *testing.T) {
	for _, x := range []struct{ a, b, q, r int }{
		{7, 2, 3, 1}, {-7, 2, -4, 1}, {7, -2, -3, 1}, {-7, -2, 4, 1},
		{6, 2, 3, 0}, {-6, 2, -3, 0}, {6, -2, -3, 0}, {-6, -2, 3, 0},
		{2, 7, 0, 2}, {-2, 7, -1, 5}, {2, -7, 0, 2}, {-2, -7, 1, 5},
		{0, 7, 0, 0}, {0, -7, 0, 0}, {5, 1, 5, 0}, {-5, -1, 5, 0}, {-1, math.MaxInt, -1, math.MaxInt - 1},
	} {
		q, r := divMod(t, integer.Of(x.a), integer.Of(x.b))
		expect(t, "quotient", q, big.NewInt(int64(x.q)))
		expect(t, "remainder", r, big.NewInt(int64(x.r)))
	}
	q, r := divMod(t, integer.Of(math.MinInt), integer.Of(-1))
	equal(t, "quotient", q, api.Int{Mag: api.Nat{0, 1 << 31}})
	equal(t, "remainder", r, api.Int{})
}

func TestExamples(t *testing.T) {
	q, r := divMod(t, integer.Of(-7), integer.Of(2))
	equal(t, "quotient of -7 and 2", q, integer.Of(-4))
	equal(t, "remainder of -7 and 2", r, integer.Of(1))
	q, r = divMod(t, integer.Of(-7), integer.Of(-2))
	equal(t, "quotient of -7 and -2", q, integer.Of(4))
	equal(t, "remainder of -7 and -2", r, integer.Of(1))
	equal(t, "Make(true, 0)", integer.Make(true, nil), api.Int{})
	power := api.Nat{0, 1 << 31}
	if x, ok := integer.Int(api.Int{Mag: power}); ok || x != 0 {
		t.Errorf("Int of 2^63: %d, %v", x, ok)
	}
	if x, ok := integer.Int(api.Int{Neg: true, Mag: power}); !ok || x != math.MinInt {
		t.Errorf("Int of -2^63: %d, %v", x, ok)
	}
}
