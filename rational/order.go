package rational

import (
	"relucert/api"
	"relucert/integer"
)

// Cmp compares two numbers.
func Cmp(a, b api.Rat) int {
	return integer.Cmp(multiple(a, divisor(b)), multiple(b, divisor(a)))
}

// Sign returns the sign.
func Sign(x api.Rat) int {
	return integer.Sign(dividend(x))
}

// Min returns the lesser number.
func Min(a, b api.Rat) api.Rat {
	if Cmp(b, a) < 0 {
		a = b
	}
	return Canon(a)
}

// Max returns the greater number.
func Max(a, b api.Rat) api.Rat {
	if Cmp(b, a) > 0 {
		a = b
	}
	return Canon(a)
}

// Floor returns the greatest integer that is at most a number.
func Floor(x api.Rat) api.Int {
	// The remainder is not negative, so that the quotient is rounded down for either sign.
	q, _, _ := integer.DivMod(dividend(x), api.Int{Mag: divisor(x)})
	return q
}
