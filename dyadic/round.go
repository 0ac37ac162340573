package dyadic

import (
	"relucert/api"
	"relucert/natural"
)

const (
	// maxBits is the greatest number of bits to round to.
	maxBits = 4096
	// maxPower limits the absolute values that are rounded: it is at least 2^-maxPower and less than 2^maxPower.
	maxPower = 1_000_000
)

// Down rounds down.
func Down(x api.Rat, bits int) (api.Dyadic, api.Errno) {
	return rounded(x, bits, x.Neg)
}

// Up rounds up.
func Up(x api.Rat, bits int) (api.Dyadic, api.Errno) {
	return rounded(x, bits, !x.Neg)
}

// rounded rounds a number to so many bits, away from 0 or towards it.
func rounded(x api.Rat, bits int, away bool) (api.Dyadic, api.Errno) {
	if bits < 1 || bits > maxBits {
		return api.Dyadic{}, api.ErrArg
	}
	num, den := parts(x)
	if natural.Bits(num) == 0 {
		return api.Dyadic{}, api.OK
	}
	top, ok := power(num, den)
	if !ok {
		return api.Dyadic{}, api.ErrRange
	}
	shift := bits - 1 - top
	// The exponent is in range, since maxPower + maxBits is less than 2^20.
	d, _ := canonical(x.Neg, quotient(num, den, shift, away), -shift)
	return d, api.OK
}

// power returns the greatest k such that 2^k is at most the quotient of two numbers that are not 0, and whether the quotient is one to round.
func power(num, den api.Nat) (int, bool) {
	k := natural.Bits(num) - natural.Bits(den)
	// The quotient is greater than 2^(k-1) and less than 2^(k+1).
	if k < -maxPower || k > maxPower {
		return 0, false
	}
	if natural.Cmp(times(num, -k), times(den, k)) < 0 {
		k--
	}
	return k, -maxPower <= k && k < maxPower
}

// quotient returns num times 2^shift divided by den, rounded up if away is set, and down otherwise.
func quotient(num, den api.Nat, shift int, away bool) api.Nat {
	q, rest, _ := natural.DivMod(times(num, shift), times(den, -shift))
	if away && len(rest) > 0 {
		q = natural.Add(q, natural.Of(1))
	}
	return q
}

// times returns n times 2^k, or n if k is negative.
func times(n api.Nat, k int) api.Nat {
	n, _ = natural.Shl(n, max(k, 0))
	return n
}
