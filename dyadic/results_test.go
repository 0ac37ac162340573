package dyadic_test

import (
	"fmt"
	"math"
	"math/big"
	"slices"
	"testing"

	"relucert/api"
	"relucert/dyadic"
	"relucert/natural"
	"relucert/sample"
)

// P5.1
func TestExamples(t *testing.T) {
	third, quarter, half3 := rat(big.NewRat(1, 3)), api.Dyadic{Mag: api.Nat{1}, Exp: -2}, api.Dyadic{Mag: api.Nat{3}, Exp: -3}
	five := rat(big.NewRat(5, 1))
	for _, x := range []struct {
		got, want api.Dyadic
	}{
		{down(t, third, 2), quarter}, {up(t, third, 2), half3}, {down(t, five, 2), api.Dyadic{Mag: api.Nat{1}, Exp: 2}}, {up(t, five, 2), api.Dyadic{Mag: api.Nat{3}, Exp: 1}},
		{down(t, rat(big.NewRat(-1, 3)), 2), api.Dyadic{Neg: true, Mag: api.Nat{3}, Exp: -3}},
	} {
		if !same(x.got, x.want) {
			t.Errorf("got %v, want %v", x.got, x.want)
		}
	}
	if d, ok := dyadic.Exact(rat(big.NewRat(3, 8))); !ok || !same(d, half3) {
		t.Errorf("Exact of 3/8: %v, %t", d, ok)
	}
	if d, ok := dyadic.Exact(third); ok || !same(d, api.Dyadic{}) {
		t.Errorf("Exact of 1/3: %v, %t", d, ok)
	}
}

// P5.1
func TestValid(t *testing.T) {
	valid := slices.Concat(numbers(), extremes(), []api.Dyadic{{Mag: api.Nat{}}})
	for _, d := range valid {
		if !dyadic.Valid(d) {
			t.Errorf("%v is not valid", d)
		}
	}
	const end = api.MaxShift
	for _, d := range []api.Dyadic{
		{Neg: true}, {Exp: 1}, {Exp: -1}, {Neg: true, Exp: 3}, {Exp: end}, {Exp: -end},
		{Mag: api.Nat{0}}, {Neg: true, Mag: api.Nat{0, 0}, Exp: 1},
		{Mag: api.Nat{2}}, {Neg: true, Mag: api.Nat{6}, Exp: -1}, {Mag: api.Nat{1 << 31}}, {Mag: api.Nat{0, 1}}, {Mag: api.Nat{most - 1, 1}, Exp: end},
		{Mag: api.Nat{1, 0}}, {Neg: true, Mag: api.Nat{3, 5, 0}, Exp: 2}, {Mag: api.Nat{1, 0, 0}},
		{Mag: api.Nat{1}, Exp: end + 1}, {Mag: api.Nat{1}, Exp: -end - 1}, {Neg: true, Mag: api.Nat{3, 1}, Exp: end + 1}, {Neg: true, Mag: api.Nat{3, 1}, Exp: -end - 1},
		{Mag: api.Nat{1}, Exp: math.MaxInt}, {Mag: api.Nat{1}, Exp: math.MinInt},
	} {
		if dyadic.Valid(d) {
			t.Errorf("%v is valid", d)
		}
	}
}

// P5.1: Exact finds a number exactly if there is one, whatever form the argument has.
func TestExact(t *testing.T) {
	list := rationals()
	for _, d := range numbers() {
		list = append(list, value(d))
	}
	for _, v := range list {
		want, wantOK := madeRat(v)
		for _, x := range forms(v) {
			if d, ok := dyadic.Exact(x); ok != wantOK || !same(d, want) {
				t.Errorf("Exact of %v: got %v, %t, want %v, %t", x, d, ok, want, wantOK)
			}
		}
	}
}

// P5.1: at the ends of the exponents, and beyond them.
func TestExactAtTheEnds(t *testing.T) {
	const end = api.MaxShift
	for _, x := range []struct{ num, up, den, down int }{
		{1, end, 1, 0}, {1, end + 1, 1, 0}, {3, end, 1, 0}, {5, end - 1, 1, 0}, {6, end - 1, 1, 0}, {6, end, 1, 0}, {1, 2*end + 70, 1, 0},
		{1, 0, 1, end}, {1, 0, 1, end + 1}, {7, 0, 1, end}, {7, 0, 1, end + 1}, {14, 0, 1, end + 1}, {1, 0, 1, 2*end + 70}, {1, 0, 3, end},
		{1, 2 * end, 1, 2 * end}, {9, 2*end + 1, 3, end + 1}, {9, 2*end + 2, 3, end + 1}, {9, end, 3, 2 * end}, {9, end, 3, 2*end + 1}, {7, 2 * end, 3, end},
	} {
		for _, neg := range []bool{false, true} {
			num := new(big.Int).Lsh(big.NewInt(int64(x.num)), uint(x.up))
			den := new(big.Int).Lsh(big.NewInt(int64(x.den)), uint(x.down))
			v := big.NewInt(int64(x.num / x.den))
			if neg {
				v.Neg(v)
			}
			want, wantOK := made(v, x.up-x.down)
			if x.num%x.den != 0 {
				want, wantOK = api.Dyadic{}, false
			}
			if d, ok := dyadic.Exact(api.Rat{Neg: neg, Num: limbs(num), Den: limbs(den)}); ok != wantOK || !same(d, want) {
				t.Errorf("Exact of %+v: got %v, %t, want %v, %t", x, short(d), ok, want, wantOK)
			}
		}
	}
}

// P5.1
func TestRat(t *testing.T) {
	for _, d := range slices.Concat(numbers(), extremes()) {
		got, want := dyadic.Rat(d), rat(value(d))
		if got.Neg != want.Neg || !slices.Equal(got.Num, want.Num) || !slices.Equal(got.Den, want.Den) {
			t.Errorf("Rat of %v is wrong", d)
		}
		if back, ok := dyadic.Exact(got); !ok || !same(back, d) {
			t.Errorf("Exact of Rat of %v: %v, %t", d, short(back), ok)
		}
	}
}

// small returns all numbers of at most so many bits with magnitudes from 2^-9 to 2^9, in increasing order.
func small(bits int) []*big.Rat {
	var out []*big.Rat
	for mag := range 1 << bits {
		for exp := -9 - bits; exp <= 9; exp++ {
			v := new(big.Rat).SetInt64(int64(mag))
			v.Mul(v, new(big.Rat).SetFrac(power(max(exp, 0)), power(max(-exp, 0))))
			out = append(out, v, new(big.Rat).Neg(v))
		}
	}
	slices.SortFunc(out, (*big.Rat).Cmp)
	return out
}

// P5.1: the results are those of a search through all numbers of few bits.
func TestRoundingBySearch(t *testing.T) {
	for bits := 1; bits <= 5; bits++ {
		list := small(bits)
		for num := int64(-70); num <= 70; num++ {
			for den := int64(1); den <= 12; den++ {
				v := big.NewRat(num, den)
				// The first number that is at least v, and the last one that is at most v.
				i, exact := slices.BinarySearchFunc(list, v, (*big.Rat).Cmp)
				above := list[i]
				below := above
				if !exact {
					below = list[i-1]
				}
				testRounded(t, rat(v), bits, below, above)
			}
		}
	}
}

// testRounded checks the results of both directions for all forms of a number.
func testRounded(t *testing.T, x api.Rat, bits int, below, above *big.Rat) {
	t.Helper()
	lower, _ := madeRat(below)
	upper, _ := madeRat(above)
	for _, form := range forms(quotient(x)) {
		d, e := dyadic.Down(form, bits)
		expect(t, fmt.Sprintf("Down of %v to %d bits", form, bits), d, e, lower, api.OK)
		d, e = dyadic.Up(form, bits)
		expect(t, fmt.Sprintf("Up of %v to %d bits", form, bits), d, e, upper, api.OK)
	}
}

// float returns a number rounded to so many bits, computed by floating-point numbers of package big.
func float(v *big.Rat, bits int, mode big.RoundingMode) api.Dyadic {
	f := new(big.Float).SetPrec(uint(bits)).SetMode(mode).SetRat(v)
	mant := new(big.Float)
	exp := f.MantExp(mant)
	whole, _ := mant.SetMantExp(mant, bits).Int(nil)
	d, _ := made(whole, exp-bits)
	return d
}

// testAsFloat checks the results of both directions for one form of a number.
func testAsFloat(t *testing.T, x api.Rat, v *big.Rat, bits int) {
	t.Helper()
	d, e := dyadic.Down(x, bits)
	expect(t, fmt.Sprintf("Down of %d limbs to %d bits", len(x.Num), bits), d, e, float(v, bits, big.ToNegativeInf), api.OK)
	d, e = dyadic.Up(x, bits)
	expect(t, fmt.Sprintf("Up of %d limbs to %d bits", len(x.Num), bits), d, e, float(v, bits, big.ToPositiveInf), api.OK)
}

// P5.1: many numbers of bits, for numbers that are exact with so many bits and for ones that are not.
func TestRoundingToManyBits(t *testing.T) {
	list := rationals()
	for _, d := range numbers() {
		list = append(list, value(d))
	}
	for _, v := range list {
		for _, bits := range []int{1, 2, 3, 31, 32, 33, 63, 64, 65, 100, 128, maxBits - 1, maxBits} {
			x := forms(v)
			testAsFloat(t, x[bits%len(x)], v, bits)
		}
	}
}

// P5.1: numbers around powers of two, where rounding carries into one more bit, and numbers with exactly so many bits.
func TestRoundingAroundPowers(t *testing.T) {
	for _, bits := range []int{1, 2, 7, 31, 32, 33, 64, 96, 1000, maxBits} {
		for _, more := range []int{-1, 0, 1, 2, 40} {
			for _, add := range []int64{-2, -1, 0, 1, 2} {
				n := power(bits + max(more, 0))
				n.Add(n, big.NewInt(add))
				for _, den := range []*big.Int{big.NewInt(1), power(bits + 5), big.NewInt(3)} {
					v := new(big.Rat).SetFrac(n, den)
					testAsFloat(t, rat(v), v, bits)
					v.Neg(v)
					testAsFloat(t, rat(v), v, bits)
				}
			}
		}
	}
}

// P5.1: long numerators and denominators.
func TestRoundingLongNumbers(t *testing.T) {
	r := sample.Random(521288629)
	for i := range 200 {
		num, den := r.Nat(1+r.Below(200)), r.Nat(1+r.Below(200))
		x := api.Rat{Neg: i%2 == 0, Num: num, Den: den}
		testAsFloat(t, x, quotient(x), 1+r.Below(maxBits))
	}
}

// P5.1: the numbers of bits at the ends and outside of them; the error comes before that of the number.
func TestNumbersOfBits(t *testing.T) {
	large := api.Rat{Num: limbs(power(lastPower))}
	for _, x := range []api.Rat{{}, {Neg: true}, rat(big.NewRat(1, 3)), rat(big.NewRat(-5, 1)), large} {
		for _, bits := range []int{0, -1, maxBits + 1, math.MaxInt, math.MinInt, 1 << 32} {
			d, e := dyadic.Down(x, bits)
			expect(t, "Down", d, e, api.Dyadic{}, api.ErrArg)
			d, e = dyadic.Up(x, bits)
			expect(t, "Up", d, e, api.Dyadic{}, api.ErrArg)
		}
	}
	for _, bits := range []int{1, 2, maxBits - 1, maxBits} {
		for _, x := range forms(new(big.Rat)) {
			testAsFloat(t, x, new(big.Rat), bits)
		}
		v := big.NewRat(-1, 3)
		testAsFloat(t, rat(v), v, bits)
	}
}

// P5.1: 0 has no absolute value that is out of range, even if its denominator is.
func TestRoundingZero(t *testing.T) {
	for _, den := range []api.Nat{nil, {0}, {7, 0}, limbs(power(lastPower + 5)), limbs(power(2 * api.MaxShift))} {
		for _, num := range []api.Nat{nil, {0}, {0, 0, 0}} {
			for _, bits := range []int{1, maxBits} {
				for _, neg := range []bool{false, true} {
					x := api.Rat{Neg: neg, Num: num, Den: den}
					d, e := dyadic.Down(x, bits)
					expect(t, "Down of 0", d, e, api.Dyadic{}, api.OK)
					d, e = dyadic.Up(x, bits)
					expect(t, "Up of 0", d, e, api.Dyadic{}, api.OK)
				}
			}
		}
	}
}

// near returns a numerator and a denominator of a number next to 2^k, scaled by a factor: it is (2^40 + add) 2^(k-40).
func near(k int, add int64, factor *big.Int) (*big.Int, *big.Int) {
	num := new(big.Int).Add(power(40), big.NewInt(add))
	den := big.NewInt(1)
	if k >= 40 {
		num.Lsh(num, uint(k-40))
	} else {
		den.Lsh(den, uint(40-k))
	}
	return num.Mul(num, factor), den.Mul(den, factor)
}

// P5.1: absolute values next to the least and the greatest one that are rounded.
func TestRangeOfRounding(t *testing.T) {
	factors := []*big.Int{big.NewInt(1), big.NewInt(12), new(big.Int).Add(power(100), big.NewInt(1)), power(1 << 21)}
	for _, x := range []struct {
		k   int
		add int64
		ok  bool
	}{
		{-lastPower, 0, true}, {-lastPower, 1, true}, {-lastPower, -1, false}, {1 - lastPower, -1, true}, {-lastPower - 1, 1, false},
		{lastPower, -1, true}, {lastPower, 0, false}, {lastPower, 1, false}, {lastPower - 1, 0, true}, {lastPower + 1, -1, false},
		{lastPower + 2, 0, false}, {-lastPower - 2, 0, false}, {api.MaxShift, 0, false}, {-api.MaxShift, 0, false}, {2*api.MaxShift + 3, 7, false}, {-2*api.MaxShift - 3, 7, false},
	} {
		for i, factor := range factors {
			num, den := near(x.k, x.add, factor)
			for _, bits := range []int{1, 39, 40, 41, maxBits} {
				testRange(t, api.Rat{Neg: (i+bits)%2 == 0, Num: limbs(num), Den: limbs(den)}, x.k, x.add, bits, x.ok)
			}
		}
	}
}

// testRange checks the results for (2^40 + add) 2^(k-40), negated if its sign is set, which is an error unless ok is set.
func testRange(t *testing.T, x api.Rat, k int, add int64, bits int, ok bool) {
	t.Helper()
	name := fmt.Sprintf("of 2^%d and %d 2^%d to %d bits, negative %t", k, add, k-40, bits, x.Neg)
	lower, lowerError := dyadic.Down(x, bits)
	upper, upperError := dyadic.Up(x, bits)
	if !ok {
		expect(t, "Down "+name, lower, lowerError, api.Dyadic{}, api.ErrRange)
		expect(t, "Up "+name, upper, upperError, api.Dyadic{}, api.ErrRange)
		return
	}
	v := new(big.Int).Add(power(40), big.NewInt(add))
	if x.Neg {
		v.Neg(v)
	}
	// The number is rounded without its exponent, which is added afterwards.
	expect(t, "Down "+name, lower, lowerError, moved(float(new(big.Rat).SetInt(v), bits, big.ToNegativeInf), k-40), api.OK)
	expect(t, "Up "+name, upper, upperError, moved(float(new(big.Rat).SetInt(v), bits, big.ToPositiveInf), k-40), api.OK)
}

// moved returns a number times 2^k.
func moved(d api.Dyadic, k int) api.Dyadic {
	d.Exp += k
	return d
}

// whole returns the number times 2^api.MaxShift, which is an integer for all exponents.
func whole(d api.Dyadic) *big.Int {
	v := magnitude(d.Mag)
	if d.Neg {
		v.Neg(v)
	}
	return v.Lsh(v, uint(d.Exp+api.MaxShift))
}

// testPair compares the functions of two numbers with the definition.
func testPair(t *testing.T, a, b api.Dyadic) {
	t.Helper()
	x, y := whole(a), whole(b)
	if got, want := dyadic.Cmp(a, b), x.Cmp(y); got != want {
		t.Errorf("Cmp of %v and %v: got %d, want %d", a, b, got, want)
	}
	want, ok := made(new(big.Int).Add(x, y), -api.MaxShift)
	sum, e := dyadic.Add(a, b)
	expect(t, fmt.Sprintf("Add of %v and %v", a, b), sum, e, want, errorUnless(ok))
	mags := new(big.Int).Mul(magnitude(a.Mag), magnitude(b.Mag))
	if a.Neg != b.Neg {
		mags.Neg(mags)
	}
	want, ok = made(mags, a.Exp+b.Exp)
	product, e := dyadic.Mul(a, b)
	expect(t, fmt.Sprintf("Mul of %v and %v", a, b), product, e, want, errorUnless(ok))
}

// errorUnless returns the error of a result that is out of range.
func errorUnless(ok bool) api.Errno {
	if ok {
		return api.OK
	}
	return api.ErrRange
}

// P5.1: numbers of both signs and 0, with sums that cancel.
func TestArithmetic(t *testing.T) {
	for i, a := range numbers() {
		for k, b := range numbers() {
			if (i+k)%7 == 0 || i < 60 && k < 60 && (i+k)%3 == 0 {
				testPair(t, a, b)
			}
		}
		testPair(t, a, dyadic.Neg(a))
		testPair(t, a, a)
	}
}

// P5.1: exponents at the ends and far apart.
func TestArithmeticAtTheEnds(t *testing.T) {
	for _, a := range extremes() {
		for _, b := range extremes() {
			testPair(t, a, b)
		}
		testPair(t, a, dyadic.Neg(a))
	}
}

// P5.1: results whose exponent is the last one, and the next one, at either end.
func TestErrorsOfArithmetic(t *testing.T) {
	const end = api.MaxShift
	one, three := api.Nat{1}, api.Nat{3}
	for _, x := range []struct {
		a, b, sum, product api.Dyadic
		sumError, mulError api.Errno
	}{
		{a: api.Dyadic{Mag: one, Exp: end}, b: api.Dyadic{Mag: one, Exp: end}, sumError: api.ErrRange, mulError: api.ErrRange},
		{a: api.Dyadic{Mag: one, Exp: end - 1}, b: api.Dyadic{Mag: one, Exp: end - 1}, sum: api.Dyadic{Mag: one, Exp: end}, mulError: api.ErrRange},
		{a: api.Dyadic{Mag: one, Exp: end - 1}, b: api.Dyadic{Mag: three, Exp: end - 1}, sumError: api.ErrRange, mulError: api.ErrRange},
		{a: api.Dyadic{Mag: three, Exp: end}, b: api.Dyadic{Neg: true, Mag: one, Exp: end}, sumError: api.ErrRange, mulError: api.ErrRange},
		{a: api.Dyadic{Mag: one, Exp: end}, b: api.Dyadic{Neg: true, Mag: one, Exp: end}, mulError: api.ErrRange},
		{a: api.Dyadic{Mag: one, Exp: end}, b: api.Dyadic{}, sum: api.Dyadic{Mag: one, Exp: end}},
		{a: api.Dyadic{Mag: one, Exp: -end}, b: api.Dyadic{}, sum: api.Dyadic{Mag: one, Exp: -end}},
		{a: api.Dyadic{Mag: one, Exp: -end}, b: api.Dyadic{Mag: one, Exp: -end}, sum: api.Dyadic{Mag: one, Exp: 1 - end}, mulError: api.ErrRange},
	} {
		sum, e := dyadic.Add(x.a, x.b)
		expect(t, fmt.Sprintf("Add of %v and %v", x.a, x.b), sum, e, x.sum, x.sumError)
		sum, e = dyadic.Add(x.b, x.a)
		expect(t, fmt.Sprintf("Add of %v and %v", x.b, x.a), sum, e, x.sum, x.sumError)
		product, e := dyadic.Mul(x.a, x.b)
		expect(t, fmt.Sprintf("Mul of %v and %v", x.a, x.b), product, e, x.product, x.mulError)
	}
	for _, x := range []struct {
		a, b int
		e    api.Errno
	}{
		{end / 2, end / 2, api.OK}, {end/2 + 1, end / 2, api.ErrRange}, {-end / 2, -end / 2, api.OK}, {-end / 2, -end/2 - 1, api.ErrRange}, {end, 0, api.OK}, {end, 1, api.ErrRange}, {-1, -end, api.ErrRange}, {0, -end, api.OK}, {end, -end, api.OK},
	} {
		want := api.Dyadic{Neg: true, Mag: api.Nat{9}, Exp: x.a + x.b}
		if x.e != api.OK {
			want = api.Dyadic{}
		}
		product, e := dyadic.Mul(api.Dyadic{Mag: three, Exp: x.a}, api.Dyadic{Neg: true, Mag: three, Exp: x.b})
		expect(t, fmt.Sprintf("Mul with exponents %d and %d", x.a, x.b), product, e, want, x.e)
	}
}

// P5.1
func TestNeg(t *testing.T) {
	for _, d := range slices.Concat(numbers(), extremes()) {
		want := api.Dyadic{Neg: !d.Neg && natural.Bits(d.Mag) > 0, Mag: d.Mag, Exp: d.Exp}
		if got := dyadic.Neg(d); !same(got, want) || !same(dyadic.Neg(got), d) {
			t.Errorf("Neg of %v: %v", d, got)
		}
	}
}
