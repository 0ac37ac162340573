package natural_test

import (
	"slices"
	"testing"

	"relucert/api"
	"relucert/natural"
	"relucert/sample"
)

// triples calls test for many lists of three numbers.
func triples(test func(a, b, c api.Nat)) {
	list := edges()
	for i, a := range list {
		for j, b := range list {
			test(a, b, list[(3*i+7*j)%len(list)])
		}
	}
	r := sample.Random(362436069)
	for i := range 500 {
		test(r.Nat(i%9), padded(r.Nat(i%7)), r.Nat(i%11))
	}
}

// P1.2
func TestOrder(t *testing.T) {
	list := numbers()
	slices.SortFunc(list, natural.Cmp)
	for i, a := range list {
		for j, b := range list {
			c := natural.Cmp(a, b)
			if c != -natural.Cmp(b, a) || i < j && c > 0 || (c == 0) != slices.Equal(a, b) {
				t.Errorf("Cmp of %v and %v: %d", a, b, c)
			}
		}
		if i > 0 && natural.Cmp(list[0], a) > 0 || natural.Cmp(a, padded(a)) != 0 {
			t.Errorf("Cmp of %v", a)
		}
	}
	triples(func(a, b, c api.Nat) {
		if natural.Cmp(natural.Add(a, c), natural.Add(b, c)) != natural.Cmp(a, b) {
			t.Errorf("addition of %v changes the order of %v and %v", c, a, b)
		}
		if natural.Cmp(a, b) <= 0 && natural.Cmp(b, c) <= 0 && natural.Cmp(a, c) > 0 {
			t.Errorf("the order of %v, %v and %v is not transitive", a, b, c)
		}
	})
}

// P1.3
func TestLawsOfSumsAndProducts(t *testing.T) {
	add, mul := natural.Add, natural.Mul
	triples(func(a, b, c api.Nat) {
		equal(t, "a + b", add(a, b), add(b, a))
		equal(t, "a b", mul(a, b), mul(b, a))
		equal(t, "a + b + c", add(add(a, b), c), add(a, add(b, c)))
		equal(t, "a b c", mul(mul(a, b), c), mul(a, mul(b, c)))
		equal(t, "a (b + c)", mul(a, add(b, c)), add(mul(a, b), mul(a, c)))
		equal(t, "a + b - b", sub(t, add(a, b), b), natural.Make(a))
		equal(t, "a + 0", add(a, nil), natural.Make(a))
		equal(t, "1 a", mul(natural.Of(1), a), natural.Make(a))
		equal(t, "0 a", mul(nil, a), nil)
	})
}

// P1.3
func TestLawsOfShifts(t *testing.T) {
	for _, k := range []int{0, 1, 31, 32, 33, 100, api.MaxShift - 1, api.MaxShift} {
		power := shl(t, natural.Of(1), k)
		if natural.Bits(power) != k+1 {
			t.Errorf("2^%d has %d bits", k, natural.Bits(power))
		}
		for _, a := range numbers() {
			equal(t, "a 2^k", shl(t, a, k), natural.Mul(a, power))
			equal(t, "a 2^k / 2^k", shr(t, shl(t, a, k), k), a)
			quotient, _ := divMod(t, a, power)
			equal(t, "a / 2^k", shr(t, a, k), quotient)
		}
	}
}

// P1.4
func TestGcdOfMultiples(t *testing.T) {
	triples(func(a, b, k api.Nat) {
		multiple := natural.Gcd(natural.Mul(k, a), natural.Mul(k, b))
		equal(t, "Gcd of k a and k b", multiple, natural.Mul(k, natural.Gcd(a, b)))
		equal(t, "Gcd of a and b", natural.Gcd(a, b), natural.Gcd(b, a))
	})
}

// P1.4
func TestGcdDivides(t *testing.T) {
	triples(func(a, b, k api.Nat) {
		g := natural.Gcd(natural.Mul(k, a), natural.Mul(k, b))
		if len(g) == 0 {
			return
		}
		for _, n := range []api.Nat{natural.Mul(k, a), natural.Mul(k, b)} {
			if _, r := divMod(t, n, g); len(r) != 0 {
				t.Errorf("%v does not divide %v", g, n)
			}
		}
		if k = natural.Make(k); len(k) != 0 {
			if _, r := divMod(t, g, k); len(r) != 0 {
				t.Errorf("%v does not divide %v", k, g)
			}
		}
	})
}

// P1: the calls terminate for numbers far beyond those of the other tests.
func TestLargeNumbers(t *testing.T) {
	r := sample.Random(521288629)
	a, b := r.Nat(6000), r.Nat(5000)
	q, rest := divMod(t, a, b)
	equal(t, "q b + r", natural.Add(natural.Mul(q, b), rest), a)
	if natural.Cmp(rest, b) >= 0 {
		t.Error("the remainder is too great")
	}
	g := natural.Gcd(a, b)
	equal(t, "Gcd of multiples", natural.Gcd(natural.Mul(a, q), natural.Mul(b, q)), natural.Mul(g, q))
	equal(t, "Gcd of shifted numbers", natural.Gcd(shl(t, q, api.MaxShift), shl(t, natural.Of(6), api.MaxShift)), shl(t, natural.Gcd(q, natural.Of(6)), api.MaxShift))
}

// P1: many limbs 0 at the end do not make the calls slow.
func TestManyZeros(t *testing.T) {
	zeros := make(api.Nat, 1<<20)
	three := append(api.Nat{3}, zeros...)
	equal(t, "Make", natural.Make(zeros), nil)
	equal(t, "Add", natural.Add(zeros, three), natural.Of(3))
	equal(t, "Sub", sub(t, three, zeros), natural.Of(3))
	equal(t, "Mul", natural.Mul(zeros, zeros), nil)
	equal(t, "Mul", natural.Mul(three, three), natural.Of(9))
	equal(t, "Gcd", natural.Gcd(zeros, three), natural.Of(3))
	q, r := divMod(t, zeros, three)
	equal(t, "quotient", q, nil)
	equal(t, "remainder", r, nil)
}
