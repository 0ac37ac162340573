package dyadic_test

import (
	"math/big"
	"slices"
	"testing"

	"relucert/api"
	"relucert/dyadic"
	"relucert/sample"
)

// most is the greatest limb, lastPower the exponent beyond which powers of two are not rounded.
const (
	most      = 1<<32 - 1
	lastPower = 1_000_000
	maxBits   = 4096
)

// numbers returns canonical numbers of both signs with moderate exponents: 0, small ones, and ones at which limbs begin or end.
func numbers() []api.Dyadic {
	out := []api.Dyadic{{}}
	mags := []api.Nat{{1}, {3}, {5}, {7}, {13}, {most}, {1, 1}, {most, most}, {1, 0, 1}, {1, 0, 1 << 31}, {most, 0, 0, 5}}
	r := sample.Random(88172645463325252)
	for i := range 6 {
		n := r.Nat(1 + i%4)
		n[0] |= 1
		mags = append(mags, n)
	}
	for i, mag := range mags {
		for k, exp := range []int{0, 1, -1, 2, -3, 31, -32, 33, 64, -100} {
			if i < 5 || (i+k)%3 == 0 {
				out = append(out, api.Dyadic{Mag: mag, Exp: exp}, api.Dyadic{Neg: true, Mag: mag, Exp: exp})
			}
		}
	}
	return out
}

// extremes returns canonical numbers of both signs with exponents at the ends of their range and far apart.
func extremes() []api.Dyadic {
	out := []api.Dyadic{{}}
	for _, exp := range []int{-api.MaxShift, 1 - api.MaxShift, -api.MaxShift / 2, -5, 0, 5, api.MaxShift / 2, api.MaxShift - 1, api.MaxShift} {
		for i, mag := range []api.Nat{{1}, {3}, {most, 7}} {
			out = append(out, api.Dyadic{Neg: (i+exp)%2 == 0, Mag: mag, Exp: exp})
		}
	}
	return out
}

// rationals returns numbers of both signs, most of which are not dyadic, in increasing order.
func rationals() []*big.Rat {
	var out []*big.Rat
	for num := int64(-20); num <= 20; num++ {
		for _, den := range []int64{1, 2, 3, 5, 8, 12, 49} {
			out = append(out, big.NewRat(num, den))
		}
	}
	for _, text := range []string{
		"4294967295", "4294967296/4294967295", "4294967297/8589934592", "18446744073709551615/18446744073709551617", "1/18446744073709551616", "340282366920938463463374607431768211455/7", "7/340282366920938463463374607431768211455",
		"1267650600228229401496703205375/1267650600228229401496703205376", "1267650600228229401496703205377/1267650600228229401496703205376",
	} {
		v, _ := new(big.Rat).SetString(text)
		out = append(out, v, new(big.Rat).Neg(v))
	}
	r := sample.Random(362436069)
	for i := range 30 {
		v := new(big.Rat).SetFrac(magnitude(r.Nat(1+i%5)), magnitude(r.Nat(1+i%4)))
		out = append(out, v, new(big.Rat).Neg(v))
	}
	slices.SortFunc(out, (*big.Rat).Cmp)
	return slices.CompactFunc(out, func(a, b *big.Rat) bool { return a.Cmp(b) == 0 })
}

// magnitude returns the number of limbs, by the definition.
func magnitude(n api.Nat) *big.Int {
	return new(big.Int).SetBytes(sample.Bytes(n))
}

// limbs returns the canonical limbs of the absolute value of a number.
func limbs(v *big.Int) api.Nat {
	return sample.Limbs(v.Bytes())
}

// power returns 2^k for a k that is not negative.
func power(k int) *big.Int {
	return new(big.Int).Lsh(big.NewInt(1), uint(k))
}

// value returns the number of a dyadic number, by the definition.
func value(d api.Dyadic) *big.Rat {
	v := magnitude(d.Mag)
	if d.Neg {
		v.Neg(v)
	}
	if d.Exp < 0 {
		return new(big.Rat).SetFrac(v, power(-d.Exp))
	}
	return new(big.Rat).SetInt(v.Lsh(v, uint(d.Exp)))
}

// quotient returns the number of a rational number, by the definition.
func quotient(x api.Rat) *big.Rat {
	num, den := magnitude(x.Num), magnitude(x.Den)
	if den.Sign() == 0 {
		den.SetInt64(1)
	}
	if x.Neg {
		num.Neg(num)
	}
	return new(big.Rat).SetFrac(num, den)
}

// rat returns the canonical form of a rational number, by the definition.
func rat(v *big.Rat) api.Rat {
	x := api.Rat{Neg: v.Sign() < 0, Num: limbs(v.Num())}
	if !v.IsInt() {
		x.Den = limbs(v.Denom())
	}
	return x
}

// forms returns the canonical form of a rational number, and other values that denote it.
func forms(v *big.Rat) []api.Rat {
	return sample.Forms(rat(v))
}

// made returns the canonical form of v times 2^exp, by the definition, and false if there is none.
func made(v *big.Int, exp int) (api.Dyadic, bool) {
	if v.Sign() == 0 {
		return api.Dyadic{}, true
	}
	zeros := v.TrailingZeroBits()
	exp += int(zeros)
	if exp < -api.MaxShift || exp > api.MaxShift {
		return api.Dyadic{}, false
	}
	mag := new(big.Int).Abs(v)
	return api.Dyadic{Neg: v.Sign() < 0, Mag: limbs(mag.Rsh(mag, zeros)), Exp: exp}, true
}

// madeRat returns the canonical form of a number, by the definition, and false if there is none.
func madeRat(v *big.Rat) (api.Dyadic, bool) {
	zeros := int(v.Denom().TrailingZeroBits())
	if v.Denom().BitLen() != zeros+1 {
		return api.Dyadic{}, false
	}
	return made(v.Num(), -zeros)
}

// same reports whether two values are the same limbs with the same sign and the same exponent.
func same(a, b api.Dyadic) bool {
	return a.Neg == b.Neg && a.Exp == b.Exp && slices.Equal(a.Mag, b.Mag)
}

// expect checks that a result is a number in its canonical form, or that there is an error.
func expect(t *testing.T, what string, got api.Dyadic, e api.Errno, want api.Dyadic, wantError api.Errno) {
	t.Helper()
	if !same(got, want) || e != wantError {
		t.Errorf("%s: got %v, error %d, want %v, error %d", what, short(got), e, short(want), wantError)
	}
}

// short returns a number with no more than a few limbs, for messages.
func short(d api.Dyadic) api.Dyadic {
	d.Mag = d.Mag[:min(len(d.Mag), 6)]
	return d
}

// down and up are the functions for arguments without an error.
func down(t *testing.T, x api.Rat, bits int) api.Dyadic {
	t.Helper()
	d, e := dyadic.Down(x, bits)
	if e != api.OK {
		t.Fatalf("Down to %d bits: error %d", bits, e)
	}
	return d
}

func up(t *testing.T, x api.Rat, bits int) api.Dyadic {
	t.Helper()
	d, e := dyadic.Up(x, bits)
	if e != api.OK {
		t.Fatalf("Up to %d bits: error %d", bits, e)
	}
	return d
}
