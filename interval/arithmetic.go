package interval

import (
	"relucert/api"
	"relucert/rational"
)

// Add returns the sum.
func Add(a, b api.Interval) api.Interval {
	return api.Interval{Lo: rational.Add(a.Lo, b.Lo), Hi: rational.Add(a.Hi, b.Hi)}
}

// Neg returns the negated interval.
func Neg(i api.Interval) api.Interval {
	return api.Interval{Lo: rational.Neg(i.Hi), Hi: rational.Neg(i.Lo)}
}

// Scale returns a multiple.
func Scale(i api.Interval, c api.Rat) api.Interval {
	if rational.Sign(c) < 0 {
		i.Lo, i.Hi = i.Hi, i.Lo
	}
	return api.Interval{Lo: rational.Mul(i.Lo, c), Hi: rational.Mul(i.Hi, c)}
}

// Mul returns the product.
func Mul(a, b api.Interval) api.Interval {
	products := [4]api.Rat{rational.Mul(a.Lo, b.Lo), rational.Mul(a.Lo, b.Hi), rational.Mul(a.Hi, b.Lo), rational.Mul(a.Hi, b.Hi)}
	// The ends start as two products, so that they share no memory even if all four are equal.
	out := api.Interval{Lo: products[0], Hi: products[3]}
	for _, product := range products {
		if rational.Cmp(product, out.Lo) < 0 {
			out.Lo = product
		}
		if rational.Cmp(product, out.Hi) > 0 {
			out.Hi = product
		}
	}
	return out
}

// Relu returns the interval of the maxima with 0.
func Relu(i api.Interval) api.Interval {
	return api.Interval{Lo: rational.Max(i.Lo, api.Rat{}), Hi: rational.Max(i.Hi, api.Rat{})}
}
