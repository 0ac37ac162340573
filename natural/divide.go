package natural

import (
	"math/bits"

	"relucert/api"
)

// DivMod returns the quotient and the remainder.
func DivMod(a, b api.Nat) (api.Nat, api.Nat, api.Errno) {
	a, b = trim(a), trim(b)
	switch {
	case len(b) == 0:
		return nil, nil, api.ErrDivide
	case Cmp(a, b) < 0:
		return nil, Make(a), api.OK
	case len(a) <= 2:
		x, y := low(a), low(b)
		return Of(x / y), Of(x % y), api.OK
	case len(b) == 1:
		q, r := divideByLimb(a, uint64(b[0]))
		return q, Of(r), api.OK
	}
	q, r := divideLong(a, b)
	return q, r, api.OK
}

// divideByLimb returns the quotient and the remainder of a and a limb that is not 0.
func divideByLimb(a api.Nat, b uint64) (api.Nat, uint64) {
	quotient := make(api.Nat, len(a))
	var rest uint64
	for i := len(a) - 1; i >= 0; i-- {
		rest = rest<<limbBits | uint64(a[i])
		quotient[i] = uint32(rest / b)
		rest %= b
	}
	return trim(quotient), rest
}

// divideLong returns the quotient and the remainder of canonical numbers, where b has at least two limbs and is at most a.
func divideLong(a, b api.Nat) (api.Nat, api.Nat) {
	// With the highest bit of the divisor set, the estimate of a limb is at most 1 too great.
	k := bits.LeadingZeros32(b[len(b)-1])
	rest, divisor := shiftLeft(a, k), trim(shiftLeft(b, k))
	quotient := make(api.Nat, len(rest)-len(divisor))
	for i := len(quotient) - 1; i >= 0; i-- {
		quotient[i] = quotientLimb(rest[i:i+len(divisor)+1], divisor)
	}
	remainder, _ := Shr(rest, k)
	return trim(quotient), remainder
}

// quotientLimb returns the quotient of rest and divisor, and leaves the remainder in rest. The divisor is normalized; rest has one more limb and is less than 2^32 times the divisor.
func quotientLimb(rest, divisor api.Nat) uint32 {
	q := estimate(rest, divisor)
	if subMultiple(rest, divisor, q) {
		addBack(rest, divisor)
		q--
	}
	return uint32(q)
}

// estimate returns the quotient of rest and divisor, as in quotientLimb, or a limb that is 1 greater: it divides their leading three and two limbs.
func estimate(rest, divisor api.Nat) uint64 {
	n := len(divisor)
	first, second := uint64(divisor[n-1]), uint64(divisor[n-2])
	top := uint64(rest[n])<<limbBits | uint64(rest[n-1])
	q, r := top/first, top%first
	// Once r exceeds a limb, no second limb of the divisor makes q too great.
	for r>>limbBits == 0 && (q>>limbBits != 0 || q*second > r<<limbBits|uint64(rest[n-2])) {
		q--
		r += first
	}
	return q
}

// subMultiple subtracts q times divisor from rest, which has one more limb, and reports whether the difference is negative (it has wrapped around then).
func subMultiple(rest, divisor api.Nat, q uint64) bool {
	n := len(divisor)
	var carry uint64
	for i, y := range divisor {
		carry += q * uint64(y)
		part := uint32(carry)
		carry >>= limbBits
		if rest[i] < part {
			carry++
		}
		rest[i] -= part
	}
	negative := uint64(rest[n]) < carry
	rest[n] -= uint32(carry)
	return negative
}

// addBack adds divisor to rest, which has one more limb and has wrapped around.
func addBack(rest, divisor api.Nat) {
	rest[len(divisor)] += addMultiple(rest[:len(divisor)], divisor, 1)
}
