package rational_test

import (
	"math/big"
	"slices"
	"testing"

	"relucert/api"
	"relucert/rational"
	"relucert/sample"
)

// triples calls test for many lists of three numbers, which are not all canonical.
func triples(test func(a, b, c api.Rat)) {
	list := numbers()
	for i, a := range list {
		for j, b := range list {
			test(a, b, list[(3*i+7*j)%len(list)])
		}
	}
	zero := api.Rat{Neg: true, Num: api.Nat{0}, Den: api.Nat{0, 2}}
	for i, a := range list {
		forms := sample.Forms(list[(5*i+1)%len(list)])
		b := forms[i%len(forms)]
		test(a, b, zero)
		test(zero, a, b)
		test(b, zero, a)
	}
	r := sample.Random(362436069)
	for i := range 300 {
		test(loose(&r, i%5, i%3), loose(&r, i%4, i%7), loose(&r, i%9, i%2))
	}
}

// P3.2
func TestField(t *testing.T) {
	add, sub, mul := rational.Add, rational.Sub, rational.Mul
	triples(func(a, b, c api.Rat) {
		number := canon(a)
		equal(t, "a + b", add(a, b), add(b, a))
		equal(t, "a b", mul(a, b), mul(b, a))
		equal(t, "a + b + c", add(add(a, b), c), add(a, add(b, c)))
		equal(t, "a b c", mul(mul(a, b), c), mul(a, mul(b, c)))
		equal(t, "a (b + c)", mul(a, add(b, c)), add(mul(a, b), mul(a, c)))
		equal(t, "a + b - b", sub(add(a, b), b), number)
		equal(t, "a - b + b", add(sub(a, b), b), number)
		equal(t, "a - b", sub(a, b), add(a, rational.Neg(b)))
		equal(t, "a - a", sub(a, a), api.Rat{})
		equal(t, "a + 0", add(a, api.Rat{}), number)
		equal(t, "1 a", mul(rational.Of(1), a), number)
		equal(t, "0 a", mul(api.Rat{}, a), api.Rat{})
		if rational.Sign(b) != 0 {
			equal(t, "a b / b", div(t, mul(a, b), b), number)
			equal(t, "a / b b", mul(div(t, a, b), b), number)
		}
	})
}

// P3.3
func TestTotalOrder(t *testing.T) {
	list := numbers()
	slices.SortFunc(list, rational.Cmp)
	list = slices.CompactFunc(list, func(a, b api.Rat) bool { return rational.Cmp(a, b) == 0 })
	for i, a := range list {
		for j, b := range list {
			want := big.NewInt(int64(i)).Cmp(big.NewInt(int64(j)))
			for _, x := range sample.Forms(a) {
				if rational.Cmp(x, b) != want || rational.Cmp(b, x) != -want {
					t.Errorf("Cmp of %v and %v: %d", x, b, rational.Cmp(x, b))
				}
			}
		}
		for _, x := range sample.Forms(a) {
			if rational.Sign(x) != rational.Cmp(x, api.Rat{}) {
				t.Errorf("Sign of %v: %d", x, rational.Sign(x))
			}
		}
	}
}

// P3.3
func TestOrderOfResults(t *testing.T) {
	triples(func(a, b, c api.Rat) {
		order := rational.Cmp(a, b)
		if rational.Cmp(rational.Add(a, c), rational.Add(b, c)) != order {
			t.Errorf("addition of %v changes the order of %v and %v", c, a, b)
		}
		if rational.Cmp(rational.Mul(a, c), rational.Mul(b, c)) != order*rational.Sign(c) {
			t.Errorf("multiplication by %v: the order of %v and %v is wrong", c, a, b)
		}
		if rational.Cmp(b, a) != -order || rational.Cmp(rational.Neg(a), rational.Neg(b)) != -order {
			t.Errorf("the order of %v and %v is not reversed", a, b)
		}
		if order <= 0 && rational.Cmp(b, c) <= 0 && rational.Cmp(a, c) > 0 {
			t.Errorf("the order of %v, %v and %v is not transitive", a, b, c)
		}
		if rational.Sign(rational.Sub(a, b)) != order {
			t.Errorf("the difference of %v and %v has another sign", a, b)
		}
	})
}

// P3.4
func TestCanonicalForm(t *testing.T) {
	test := func(a, b api.Rat) {
		equals := value(a).Cmp(value(b)) == 0
		if sample.SameRat(rational.Canon(a), rational.Canon(b)) != equals || (rational.Cmp(a, b) == 0) != equals {
			t.Errorf("%v and %v: equal canonical forms %v, the same number %v", a, b, !equals, equals)
		}
	}
	for _, x := range numbers() {
		for _, a := range sample.Forms(x) {
			for _, b := range sample.Forms(x) {
				test(a, b)
			}
			for _, y := range numbers() {
				test(a, y)
			}
		}
	}
	triples(func(a, b, c api.Rat) {
		test(rational.Sub(a, b), rational.Neg(rational.Sub(b, a)))
		test(rational.Add(a, c), rational.Add(b, c))
	})
}

// P1: the calls terminate for large numbers, and for many limbs 0 at the end.
func TestLargeNumbers(t *testing.T) {
	r := sample.Random(521288629)
	for range 3 {
		a, b := loose(&r, 900, 700), loose(&r, 300, 1100)
		testPair(t, a, b)
		sum := rational.Add(a, b)
		equal(t, "a + b - b", rational.Sub(sum, b), canon(a))
		testSimplest(t, value(a), value(a), value(simplest(t, a, a)))
	}
	many := make(api.Nat, 1<<18)
	for _, neg := range []bool{false, true} {
		zero := api.Rat{Neg: neg, Num: many, Den: many}
		long := api.Rat{Neg: neg, Num: append(api.Nat{6}, many...), Den: append(api.Nat{4}, many...)}
		for _, x := range []api.Rat{zero, long, number("-5/3")} {
			testPair(t, zero, x)
			testPair(t, long, x)
		}
		equal(t, "Canon", rational.Canon(long), canon(api.Rat{Neg: neg, Num: api.Nat{3}, Den: api.Nat{2}}))
		equal(t, "Simplest", simplest(t, long, long), rational.Canon(long))
		equal(t, "Simplest", simplest(t, zero, zero), api.Rat{})
	}
}
