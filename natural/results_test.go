package natural_test

import (
	"math"
	"math/big"
	"slices"
	"testing"

	"relucert/api"
	"relucert/natural"
	"relucert/sample"
)

// The tests of this file belong to P1.1: every function returns the specified result.

func TestMakeAndValid(t *testing.T) {
	for _, n := range numbers() {
		equal(t, "Make", natural.Make(n), n)
		equal(t, "Make of a padded number", natural.Make(padded(n)), n)
		if !natural.Valid(n) || natural.Valid(padded(n)) {
			t.Errorf("Valid of %v", n)
		}
	}
	for _, zeros := range []int{0, 1, 2, 100} {
		equal(t, "Make of zeros", natural.Make(make([]uint32, zeros)), nil)
		if natural.Valid(make(api.Nat, zeros)) != (zeros == 0) {
			t.Errorf("Valid of %d zeros", zeros)
		}
	}
}

func TestOfAndUint(t *testing.T) {
	for _, x := range []uint64{0, 1, most, 1 << 32, 1<<32 + 5, 1 << 63, math.MaxUint64} {
		n := natural.Of(x)
		expect(t, "Of", n, new(big.Int).SetUint64(x))
		for _, same := range []api.Nat{n, padded(n)} {
			if u, ok := natural.Uint(same); u != x || !ok {
				t.Errorf("Uint of %v: %d, %v", same, u, ok)
			}
		}
	}
	for _, n := range numbers() {
		want := value(n)
		u, ok := natural.Uint(padded(n))
		if ok != want.IsUint64() || ok && u != want.Uint64() || !ok && u != 0 {
			t.Errorf("Uint of %v: %d, %v", n, u, ok)
		}
	}
}

func TestBits(t *testing.T) {
	for _, n := range numbers() {
		if natural.Bits(n) != value(n).BitLen() || natural.Bits(padded(n)) != value(n).BitLen() {
			t.Errorf("Bits of %v: %d", n, natural.Bits(n))
		}
	}
	for k := range 200 {
		power := shl(t, natural.Of(1), k)
		if natural.Bits(power) != k+1 || natural.Bits(sub(t, power, natural.Of(1))) != k {
			t.Errorf("Bits of 2^%d", k)
		}
	}
}

func TestPairs(t *testing.T) {
	for _, a := range numbers() {
		for _, b := range numbers() {
			testPair(t, a, b)
			testPair(t, padded(a), b)
			testPair(t, a, padded(b))
		}
	}
}

// testPair compares all functions of two numbers with their definitions.
func testPair(t *testing.T, a, b api.Nat) {
	t.Helper()
	x, y := value(a), value(b)
	if natural.Cmp(a, b) != x.Cmp(y) {
		t.Errorf("Cmp of %v and %v: %d", a, b, natural.Cmp(a, b))
	}
	expect(t, "Add", natural.Add(a, b), new(big.Int).Add(x, y))
	expect(t, "Mul", natural.Mul(a, b), new(big.Int).Mul(x, y))
	expect(t, "Gcd", natural.Gcd(a, b), new(big.Int).GCD(nil, nil, x, y))
	if x.Cmp(y) >= 0 {
		expect(t, "Sub", sub(t, a, b), new(big.Int).Sub(x, y))
	} else if d, e := natural.Sub(a, b); e != api.ErrRange || len(d) != 0 {
		t.Errorf("Sub of %v and %v: %v, error %d", a, b, d, e)
	}
	if y.Sign() > 0 {
		q, r := divMod(t, a, b)
		expect(t, "quotient", q, new(big.Int).Div(x, y))
		expect(t, "remainder", r, new(big.Int).Mod(x, y))
	} else if q, r, e := natural.DivMod(a, b); e != api.ErrDivide || len(q) != 0 || len(r) != 0 {
		t.Errorf("DivMod of %v and 0: %v, %v, error %d", a, q, r, e)
	}
}

func TestCarriesThroughAllLimbs(t *testing.T) {
	for limbs := range 40 {
		ones := slices.Repeat(api.Nat{most}, limbs)
		power := append(make(api.Nat, limbs), 1)
		equal(t, "Add", natural.Add(ones, natural.Of(1)), power)
		equal(t, "Add", natural.Add(natural.Of(1), ones), power)
		equal(t, "Sub", sub(t, power, natural.Of(1)), ones)
		equal(t, "Sub", sub(t, power, ones), natural.Of(1))
		square := new(big.Int).Mul(value(ones), value(ones))
		expect(t, "Mul", natural.Mul(ones, ones), square)
	}
}

func TestShifts(t *testing.T) {
	for _, a := range numbers() {
		for _, k := range []int{0, 1, 5, 31, 32, 33, 63, 64, 65, 96, 127, 128, 1000} {
			testShift(t, a, k)
			testShift(t, padded(a), k)
		}
	}
}

func testShift(t *testing.T, a api.Nat, k int) {
	t.Helper()
	expect(t, "Shl", shl(t, a, k), new(big.Int).Lsh(value(a), uint(k)))
	expect(t, "Shr", shr(t, a, k), new(big.Int).Rsh(value(a), uint(k)))
}

func TestShiftLimits(t *testing.T) {
	r := sample.Random(2463534242)
	large := r.Nat(api.MaxShift/32 + 3)
	for _, a := range []api.Nat{nil, {0}, {1}, {most, 7}, large} {
		for _, k := range []int{0, api.MaxShift - 1, api.MaxShift} {
			testShift(t, a, k)
		}
		for _, k := range []int{-1, api.MaxShift + 1, math.MinInt, math.MaxInt} {
			if s, e := natural.Shl(a, k); e != api.ErrRange || len(s) != 0 {
				t.Errorf("Shl by %d: error %d", k, e)
			}
			if s, e := natural.Shr(a, k); e != api.ErrRange || len(s) != 0 {
				t.Errorf("Shr by %d: error %d", k, e)
			}
		}
	}
}

// In these divisions the estimate of a limb of the quotient is too great, and is corrected by each of the ways to do so.
func TestDivisionEstimates(t *testing.T) {
	for _, x := range []struct{ a, b api.Nat }{
		{api.Nat{3, 0, 1 << 31}, api.Nat{1, 0, 1 << 29}},
		{api.Nat{0, 0, 1 << 31, 1<<31 - 1}, api.Nat{1, 0, 1 << 31}},
		{api.Nat{0, most - 1, 1 << 31}, api.Nat{most, 1 << 31}},
		{api.Nat{0, 0, 0, 1 << 31}, api.Nat{most, 1 << 31}},
		{api.Nat{0, 0, most, most - 1}, api.Nat{most, most, most}},
		{api.Nat{most, most, most - 1, most}, api.Nat{most, most}},
	} {
		testPair(t, x.a, x.b)
	}
	r := sample.Random(123456789)
	for i := range 3000 {
		b, q := r.Nat(2+i%4), r.Nat(1+i%5)
		// Just below a multiple of the divisor, an estimate is most easily too great.
		multiple := natural.Mul(b, natural.Add(q, natural.Of(1)))
		testPair(t, multiple, b)
		testPair(t, sub(t, multiple, natural.Of(1)), b)
	}
}

func TestGcdOfZero(t *testing.T) {
	zeros := []api.Nat{nil, {}, {0}, {0, 0, 0, 0}}
	for _, a := range zeros {
		for _, b := range zeros {
			equal(t, "Gcd of 0 and 0", natural.Gcd(a, b), nil)
		}
		for _, n := range numbers() {
			equal(t, "Gcd with 0", natural.Gcd(a, padded(n)), n)
			equal(t, "Gcd with 0", natural.Gcd(padded(n), a), n)
		}
	}
}

// Successive Fibonacci numbers need the most steps of Euclid's algorithm; in between, a great quotient interrupts them.
func TestGcdOfManySteps(t *testing.T) {
	a, b := natural.Of(1), natural.Of(1)
	for i := range 2000 {
		a, b = natural.Add(a, b), a
		if i%300 == 299 {
			a = natural.Add(a, natural.Mul(b, shl(t, natural.Of(3), i%500)))
		}
		if i%50 == 0 || i%300 == 299 {
			equal(t, "Gcd", natural.Gcd(a, b), natural.Of(1))
			equal(t, "Gcd", natural.Gcd(b, natural.Mul(a, b)), b)
		}
	}
}

func TestExamples(t *testing.T) {
	power, one := api.Nat{0, 1}, natural.Of(1)
	equal(t, "2^32", power, natural.Of(1<<32))
	equal(t, "2^32 - 1", sub(t, power, one), api.Nat{4294967295})
	q, r := divMod(t, shl(t, one, 64), natural.Add(power, one))
	equal(t, "quotient", q, api.Nat{4294967295})
	equal(t, "remainder", r, one)
	equal(t, "Gcd", natural.Gcd(natural.Of(12), natural.Of(18)), natural.Of(6))
	if natural.Bits(nil) != 0 || natural.Bits(power) != 33 {
		t.Error("Bits")
	}
}
