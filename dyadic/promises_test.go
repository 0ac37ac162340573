package dyadic_test

import (
	"math"
	"math/big"
	"slices"
	"testing"

	"relucert/api"
	"relucert/dyadic"
	"relucert/rational"
	"relucert/sample"
)

// precisions returns numbers of bits to round to.
func precisions() []int {
	return []int{1, 2, 3, 4, 8, 31, 32, 33, 64, 65, 200, maxBits}
}

// mixed returns rational numbers in increasing order, some of which are dyadic numbers of many bits.
func mixed() []*big.Rat {
	list := rationals()
	for _, d := range numbers() {
		list = append(list, value(d))
	}
	slices.SortFunc(list, (*big.Rat).Cmp)
	return list
}

// P5.2
func TestRounding(t *testing.T) {
	for _, v := range mixed() {
		exact, dyadicToo := madeRat(v)
		for _, bits := range precisions() {
			lower, upper := down(t, rat(v), bits), up(t, rat(v), bits)
			below, above := value(lower), value(upper)
			if below.Cmp(v) > 0 || v.Cmp(above) > 0 {
				t.Errorf("%v is not between %v and %v (%d bits)", v, below, above, bits)
			}
			fits := dyadicToo && magnitude(exact.Mag).BitLen() <= bits
			if (below.Cmp(v) == 0) != fits || (above.Cmp(v) == 0) != fits {
				t.Errorf("%v is rounded to %v and %v (%d bits)", v, below, above, bits)
			}
			if most := max(magnitude(lower.Mag).BitLen(), magnitude(upper.Mag).BitLen()); most > bits || !dyadic.Valid(lower) || !dyadic.Valid(upper) {
				t.Errorf("%v is rounded to %v and %v, which have too many bits or are not canonical", v, lower, upper)
			}
			testDistance(t, v, below, above, bits)
		}
	}
}

// testDistance checks that the distance of two rounded numbers is at most that of P5.2.
func testDistance(t *testing.T, v, below, above *big.Rat, bits int) {
	t.Helper()
	limit := new(big.Rat).Mul(new(big.Rat).Abs(v), new(big.Rat).SetFrac(big.NewInt(2), power(bits)))
	if distance := new(big.Rat).Sub(above, below); distance.Cmp(limit) > 0 {
		t.Errorf("the distance of %v and %v is too great for %v (%d bits)", below, above, v, bits)
	}
}

// P5.2, at the ends of the range. The numbers are compared without the power of two that they have in common.
func TestDistanceAtTheEnds(t *testing.T) {
	for _, k := range []int{-lastPower, lastPower - 1} {
		for _, add := range []int64{0, 1, 1 << 39, 1<<40 - 1} {
			num, den := near(k, add, big.NewInt(1))
			for _, bits := range []int{1, 2, 40, 41, maxBits} {
				v := big.NewInt(1<<40 + add)
				x := api.Rat{Neg: bits%2 == 0, Num: limbs(num), Den: limbs(den)}
				if x.Neg {
					v.Neg(v)
				}
				whole := new(big.Rat).SetInt(v)
				lower, upper := value(moved(down(t, x, bits), 40-k)), value(moved(up(t, x, bits), 40-k))
				if lower.Cmp(whole) > 0 || whole.Cmp(upper) > 0 {
					t.Errorf("a number next to 2^%d is not between its bounds of %d bits", k, bits)
				}
				testDistance(t, whole, lower, upper, bits)
			}
		}
	}
}

// P5.3
func TestMonotony(t *testing.T) {
	list := mixed()
	for _, bits := range precisions() {
		for i := 1; i < len(list); i++ {
			x, y := rat(list[i-1]), rat(list[i])
			if dyadic.Cmp(down(t, x, bits), down(t, y, bits)) > 0 || dyadic.Cmp(up(t, x, bits), up(t, y, bits)) > 0 {
				t.Errorf("rounding to %d bits changes the order of %v and %v", bits, list[i-1], list[i])
			}
		}
	}
}

// P5.3: more bits never move a result away.
func TestMoreBits(t *testing.T) {
	for _, v := range mixed() {
		x := rat(v)
		for bits := range 140 {
			testMoreBits(t, x, bits+1, bits+2)
		}
		testMoreBits(t, x, 3, maxBits)
		testMoreBits(t, x, maxBits-1, maxBits)
	}
}

// testMoreBits compares the results with few and with more bits.
func testMoreBits(t *testing.T, x api.Rat, few, more int) {
	t.Helper()
	if dyadic.Cmp(down(t, x, few), down(t, x, more)) > 0 {
		t.Errorf("Down of %v to %d bits is less than to %d", x, more, few)
	}
	if dyadic.Cmp(up(t, x, few), up(t, x, more)) < 0 {
		t.Errorf("Up of %v to %d bits is greater than to %d", x, more, few)
	}
}

// P5.4
func TestSymmetry(t *testing.T) {
	list := []api.Rat{{}, {Num: limbs(power(lastPower))}, {Num: limbs(power(lastPower - 1))}, {Num: api.Nat{1}, Den: limbs(power(lastPower))}, {Num: api.Nat{1}, Den: limbs(power(lastPower + 1))}}
	for _, v := range mixed() {
		list = append(list, forms(v)...)
	}
	for _, x := range list {
		negated := x
		negated.Neg = !x.Neg
		for _, bits := range append(precisions(), 0, maxBits+1) {
			lower, e := dyadic.Down(negated, bits)
			upper, want := dyadic.Up(x, bits)
			expect(t, "Down of a negated number", lower, e, dyadic.Neg(upper), want)
			upper, e = dyadic.Up(negated, bits)
			lower, want = dyadic.Down(x, bits)
			expect(t, "Up of a negated number", upper, e, dyadic.Neg(lower), want)
		}
	}
}

// P5.1: Cmp is the order of the numbers, and sums and products of dyadic numbers are those of rational numbers.
func TestAgreesWithRational(t *testing.T) {
	list := numbers()
	slices.SortFunc(list, dyadic.Cmp)
	for i, a := range list {
		for k, b := range list {
			if c := dyadic.Cmp(a, b); c != rational.Cmp(dyadic.Rat(a), dyadic.Rat(b)) || (c == 0) != same(a, b) || i < k && c > 0 {
				t.Errorf("Cmp of %v and %v: %d", a, b, c)
			}
			if (i+k)%5 != 0 {
				continue
			}
			sum, _ := dyadic.Add(a, b)
			product, _ := dyadic.Mul(a, b)
			x, y := dyadic.Rat(a), dyadic.Rat(b)
			if rational.Cmp(dyadic.Rat(sum), rational.Add(x, y)) != 0 || rational.Cmp(dyadic.Rat(product), rational.Mul(x, y)) != 0 {
				t.Errorf("the sum of %v and %v is %v, the product %v", a, b, sum, product)
			}
		}
	}
}

// P1: the calls terminate for long numbers.
func TestLongNumbers(t *testing.T) {
	r := sample.Random(2463534242)
	for _, length := range []int{1000, 1 << 12} {
		num, den := r.Nat(length), r.Nat(length-1)
		num[0], den[0] = num[0]|1, den[0]|1
		testAsFloat(t, api.Rat{Num: num, Den: den}, new(big.Rat).SetFrac(magnitude(num), magnitude(den)), maxBits)
		if _, ok := dyadic.Exact(api.Rat{Num: num, Den: den}); ok {
			t.Error("Exact finds a number that is not there")
		}
		for _, exp := range []int{0, -40 * length, api.MaxShift} {
			testPair(t, api.Dyadic{Mag: num, Exp: exp}, api.Dyadic{Neg: true, Mag: den, Exp: exp / 2})
		}
	}
}

// P1: the calls terminate without a panic for numbers that are not canonical, too, although they have no specified result.
func TestOtherNumbers(t *testing.T) {
	list := []api.Dyadic{
		{}, {Neg: true}, {Exp: 5}, {Neg: true, Mag: api.Nat{0, 0}, Exp: -3}, {Mag: api.Nat{6, 0}, Exp: 1}, {Mag: api.Nat{0, 1}, Exp: api.MaxShift},
		{Mag: api.Nat{1}, Exp: api.MaxShift + 1}, {Mag: api.Nat{3}, Exp: -api.MaxShift - 1}, {Mag: api.Nat{1}, Exp: math.MaxInt}, {Neg: true, Mag: api.Nat{1}, Exp: math.MinInt}, {Exp: math.MinInt}, {Exp: math.MaxInt},
	}
	for _, a := range list {
		dyadic.Rat(a)
		dyadic.Neg(a)
		for _, b := range list {
			dyadic.Cmp(a, b)
			dyadic.Add(a, b)
			dyadic.Mul(a, b)
		}
	}
}
