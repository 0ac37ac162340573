package integer

import (
	"relucert/api"
	"relucert/natural"
)

// Neg returns the negated number.
func Neg(x api.Int) api.Int {
	return Make(!x.Neg, x.Mag)
}

// Add returns the sum.
func Add(a, b api.Int) api.Int {
	switch {
	case a.Neg == b.Neg:
		return signed(a.Neg, natural.Add(a.Mag, b.Mag))
	case natural.Cmp(a.Mag, b.Mag) < 0:
		a, b = b, a
	}
	// The signs differ, and the greater magnitude determines that of the sum.
	mag, _ := natural.Sub(a.Mag, b.Mag)
	return signed(a.Neg, mag)
}

// Sub returns the difference.
func Sub(a, b api.Int) api.Int {
	b.Neg = !b.Neg
	return Add(a, b)
}

// Mul returns the product.
func Mul(a, b api.Int) api.Int {
	return signed(a.Neg != b.Neg, natural.Mul(a.Mag, b.Mag))
}

// DivMod returns the quotient and the remainder.
func DivMod(a, b api.Int) (api.Int, api.Int, api.Errno) {
	q, r, e := natural.DivMod(a.Mag, b.Mag)
	if e != api.OK {
		return api.Int{}, api.Int{}, e
	}
	if a.Neg && len(r) > 0 {
		// -(q b + r) is -(q + 1) b + (b - r), so that the remainder is not negative.
		q = natural.Add(q, natural.Of(1))
		r, _ = natural.Sub(b.Mag, r)
	}
	return signed(a.Neg != b.Neg, q), signed(false, r), api.OK
}
