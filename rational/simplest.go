package rational

import (
	"relucert/api"
	"relucert/natural"
)

// Simplest returns the simplest number of an interval.
func Simplest(lo, hi api.Rat) (api.Rat, api.Errno) {
	switch {
	case Cmp(lo, hi) > 0:
		return api.Rat{}, api.ErrRange
	case Sign(lo) > 0:
		return descend(&span{lo, hi}), api.OK
	case Sign(hi) < 0:
		x := descend(&span{hi, lo})
		x.Neg = true
		return x, api.OK
	}
	return api.Rat{}, api.OK
}

// span is the interval between the absolute values of two numbers, which are not 0, the lesser one first.
type span struct{ lo, hi api.Rat }

// descend returns the simplest number of a span: the one that a descent of the Stern-Brocot tree meets first. It uses up the span: great numbers need many levels, so that each of them keeps little.
func descend(s *span) api.Rat {
	whole, inside := s.enter()
	if !inside {
		return api.Rat{Num: whole}
	}
	return leave(whole, descend(s))
}

// leave returns the sum of an integer and the reciprocal of a number that is greater than 1. No common divisor arises. It keeps the numerator without a copy.
func leave(whole api.Nat, x api.Rat) api.Rat {
	return api.Rat{Num: natural.Add(natural.Mul(whole, x.Num), divisor(x)), Den: x.Num}
}

// enter returns the least integer of a span, and false. If there is none, it returns the integer below the span, and true, and replaces the span by that of the reciprocals of the fractional parts.
func (s *span) enter() (api.Nat, bool) {
	low, lowRest, _ := natural.DivMod(s.lo.Num, divisor(s.lo))
	high, highRest, _ := natural.DivMod(s.hi.Num, divisor(s.hi))
	switch {
	case len(lowRest) == 0:
		return low, false
	case natural.Cmp(low, high) < 0:
		return natural.Add(low, natural.Of(1)), false
	}
	s.lo, s.hi = api.Rat{Num: divisor(s.hi), Den: highRest}, api.Rat{Num: divisor(s.lo), Den: lowRest}
	return low, true
}
