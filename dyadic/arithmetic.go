package dyadic

import (
	"relucert/api"
	"relucert/integer"
	"relucert/natural"
)

// Cmp compares two numbers.
func Cmp(a, b api.Dyadic) int {
	exp := min(a.Exp, b.Exp)
	return integer.Cmp(multiple(a, exp), multiple(b, exp))
}

// Neg returns the negated number.
func Neg(d api.Dyadic) api.Dyadic {
	negated := integer.Make(!d.Neg, d.Mag)
	return api.Dyadic{Neg: negated.Neg, Mag: negated.Mag, Exp: d.Exp}
}

// Add returns the sum.
func Add(a, b api.Dyadic) (api.Dyadic, api.Errno) {
	exp := min(a.Exp, b.Exp)
	sum := integer.Add(multiple(a, exp), multiple(b, exp))
	return checked(sum.Neg, sum.Mag, exp)
}

// Mul returns the product.
func Mul(a, b api.Dyadic) (api.Dyadic, api.Errno) {
	return checked(a.Neg != b.Neg, natural.Mul(a.Mag, b.Mag), a.Exp+b.Exp)
}

// multiple returns the integer that a number is of 2^exp, which is not greater than its own power of two.
func multiple(d api.Dyadic, exp int) api.Int {
	// The distance of two exponents is at most twice the greatest shift of natural.
	k := d.Exp - exp
	mag, _ := natural.Shl(d.Mag, k/2)
	mag, _ = natural.Shl(mag, k-k/2)
	return api.Int{Neg: d.Neg, Mag: mag}
}

// checked returns the canonical form of mag times 2^exp, negated if neg is set, and ErrRange if it has none.
func checked(neg bool, mag api.Nat, exp int) (api.Dyadic, api.Errno) {
	d, ok := canonical(neg, mag, exp)
	if !ok {
		return api.Dyadic{}, api.ErrRange
	}
	return d, api.OK
}
