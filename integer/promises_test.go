package integer_test

import (
	"slices"
	"testing"

	"relucert/api"
	"relucert/integer"
	"relucert/sample"
)

// triples calls test for many lists of three numbers, which are not all canonical.
func triples(test func(a, b, c api.Int)) {
	list := numbers()
	for i, a := range list {
		for j, b := range list {
			test(a, b, list[(3*i+7*j)%len(list)])
		}
	}
	zero := api.Int{Neg: true, Mag: api.Nat{0}}
	for i, a := range list {
		b := padded(list[(5*i+1)%len(list)])
		test(a, b, zero)
		test(zero, a, b)
		test(b, zero, a)
	}
	r := sample.Random(362436069)
	for i := range 500 {
		test(number(&r, i%9), padded(number(&r, i%7)), number(&r, i%11))
	}
}

// P2.2
func TestRing(t *testing.T) {
	add, mul := integer.Add, integer.Mul
	triples(func(a, b, c api.Int) {
		same := integer.Make(a.Neg, a.Mag)
		equal(t, "a + b", add(a, b), add(b, a))
		equal(t, "a b", mul(a, b), mul(b, a))
		equal(t, "a + b + c", add(add(a, b), c), add(a, add(b, c)))
		equal(t, "a b c", mul(mul(a, b), c), mul(a, mul(b, c)))
		equal(t, "a (b + c)", mul(a, add(b, c)), add(mul(a, b), mul(a, c)))
		equal(t, "a + -a", add(a, integer.Neg(a)), api.Int{})
		equal(t, "--a", integer.Neg(integer.Neg(a)), same)
		equal(t, "a - b", integer.Sub(a, b), add(a, integer.Neg(b)))
		equal(t, "a - a", integer.Sub(a, a), api.Int{})
		equal(t, "a + 0", add(a, api.Int{}), same)
		equal(t, "1 a", mul(integer.Of(1), a), same)
		equal(t, "-1 a", mul(integer.Of(-1), a), integer.Neg(a))
	})
}

// The number a is q b + r, where r is in the range of a remainder (P2.1).
func TestDivisionLaw(t *testing.T) {
	triples(func(a, b, c api.Int) {
		if integer.Sign(b) == 0 {
			return
		}
		q, r := divMod(t, a, b)
		equal(t, "q b + r", integer.Add(integer.Mul(q, b), r), integer.Make(a.Neg, a.Mag))
		if integer.Sign(r) < 0 || integer.Cmp(r, api.Int{Mag: b.Mag}) >= 0 {
			t.Errorf("DivMod of %v and %v: remainder %v", a, b, r)
		}
		q, r = divMod(t, integer.Mul(b, c), b)
		equal(t, "quotient of a multiple", q, integer.Make(c.Neg, c.Mag))
		equal(t, "remainder of a multiple", r, api.Int{})
	})
}

// P2.3
func TestTotalOrder(t *testing.T) {
	list := numbers()
	slices.SortFunc(list, integer.Cmp)
	list = slices.CompactFunc(list, func(a, b api.Int) bool { return integer.Cmp(a, b) == 0 })
	for i, a := range list {
		for j, b := range list {
			want := 0
			switch {
			case i < j:
				want = -1
			case i > j:
				want = 1
			}
			for _, x := range forms(a) {
				for _, y := range forms(b) {
					if integer.Cmp(x, y) != want {
						t.Errorf("Cmp of %v and %v: %d", x, y, integer.Cmp(x, y))
					}
				}
			}
		}
		if integer.Sign(a) != integer.Cmp(a, api.Int{}) {
			t.Errorf("Sign of %v: %d", a, integer.Sign(a))
		}
	}
}

// P2.3
func TestOrderOfResults(t *testing.T) {
	triples(func(a, b, c api.Int) {
		order := integer.Cmp(a, b)
		if integer.Cmp(integer.Add(a, c), integer.Add(b, c)) != order {
			t.Errorf("addition of %v changes the order of %v and %v", c, a, b)
		}
		if integer.Cmp(integer.Mul(a, c), integer.Mul(b, c)) != order*integer.Sign(c) {
			t.Errorf("multiplication by %v: the order of %v and %v is wrong", c, a, b)
		}
		if integer.Cmp(integer.Neg(a), integer.Neg(b)) != -order || integer.Cmp(b, a) != -order {
			t.Errorf("the order of %v and %v is not reversed", a, b)
		}
		if order <= 0 && integer.Cmp(b, c) <= 0 && integer.Cmp(a, c) > 0 {
			t.Errorf("the order of %v, %v and %v is not transitive", a, b, c)
		}
		if integer.Sign(integer.Sub(a, b)) != order {
			t.Errorf("the difference of %v and %v has another sign", a, b)
		}
	})
}

// P1: the calls terminate for large numbers, and for many limbs 0 at the end.
func TestLargeNumbers(t *testing.T) {
	r := sample.Random(521288629)
	zeros := make(api.Nat, 1<<18)
	for range 4 {
		a, b := number(&r, 3000), number(&r, 2000)
		q, rest := divMod(t, a, b)
		equal(t, "q b + r", integer.Add(integer.Mul(q, b), rest), a)
		long := api.Int{Neg: a.Neg, Mag: append(slices.Clone(a.Mag), zeros...)}
		equal(t, "Make", integer.Make(long.Neg, long.Mag), a)
		equal(t, "Sub", integer.Sub(long, a), api.Int{})
		if integer.Cmp(long, a) != 0 || integer.Sign(long) != integer.Sign(a) || integer.Valid(long) {
			t.Error("limbs 0 at the end")
		}
		if _, ok := integer.Int(long); ok {
			t.Error("Int of a large number")
		}
	}
	for _, neg := range []bool{false, true} {
		zero := api.Int{Neg: neg, Mag: zeros}
		testPair(t, zero, zero)
		testPair(t, zero, integer.Of(-5))
		testPair(t, integer.Of(-5), zero)
	}
}
