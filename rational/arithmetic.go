package rational

import (
	"relucert/api"
	"relucert/integer"
	"relucert/natural"
)

// Neg returns the negated number.
func Neg(x api.Rat) api.Rat {
	x.Neg = !x.Neg
	return Canon(x)
}

// Add returns the sum.
func Add(a, b api.Rat) api.Rat {
	x, y := divisor(a), divisor(b)
	sum := integer.Add(multiple(a, y), multiple(b, x))
	return quotient(sum.Neg, sum.Mag, natural.Mul(x, y))
}

// Sub returns the difference.
func Sub(a, b api.Rat) api.Rat {
	b.Neg = !b.Neg
	return Add(a, b)
}

// Mul returns the product.
func Mul(a, b api.Rat) api.Rat {
	return quotient(a.Neg != b.Neg, natural.Mul(a.Num, b.Num), natural.Mul(divisor(a), divisor(b)))
}

// Div returns the quotient.
func Div(a, b api.Rat) (api.Rat, api.Errno) {
	if Sign(b) == 0 {
		return api.Rat{}, api.ErrDivide
	}
	return quotient(a.Neg != b.Neg, natural.Mul(a.Num, divisor(b)), natural.Mul(divisor(a), b.Num)), api.OK
}

// multiple returns the numerator of a number as it stands, with its sign, times n.
func multiple(x api.Rat, n api.Nat) api.Int {
	return api.Int{Neg: x.Neg, Mag: natural.Mul(x.Num, n)}
}
