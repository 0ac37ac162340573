package sample

import (
	"slices"

	"relucert/api"
)

// Forms returns the canonical form of a rational number, which is given, and other values that denote the number.
func Forms(x api.Rat) []api.Rat {
	den := x.Den
	if len(den) == 0 {
		den = api.Nat{1}
	}
	out := []api.Rat{x, {Neg: x.Neg, Num: zeros(x.Num, 2), Den: zeros(x.Den, 1)}}
	for low, factor := range []uint32{6, 32, 1<<32 - 1} {
		out = append(out, api.Rat{Neg: x.Neg, Num: zeros(times(x.Num, factor, low), 1), Den: times(den, factor, low)})
	}
	if len(x.Den) == 0 {
		for _, one := range []api.Nat{{}, {0}, {1}, {1, 0, 0}} {
			out = append(out, api.Rat{Neg: x.Neg, Num: x.Num, Den: one})
		}
	}
	if len(x.Num) == 0 {
		out = append(out, api.Rat{Neg: true}, api.Rat{Neg: true, Num: api.Nat{0, 0}, Den: api.Nat{0, 5, 0}})
	}
	return out
}

// SameRat reports whether two rational numbers are the same limbs with the same sign.
func SameRat(a, b api.Rat) bool {
	return a.Neg == b.Neg && slices.Equal(a.Num, b.Num) && slices.Equal(a.Den, b.Den)
}

// SpareRat returns a copy of a rational number whose slices have spare capacity (see Spare).
func SpareRat(x api.Rat) api.Rat {
	return api.Rat{Neg: x.Neg, Num: Spare(x.Num), Den: Spare(x.Den)}
}

// zeros returns a copy of limbs with limbs 0 at their end.
func zeros(n api.Nat, count int) api.Nat {
	return append(slices.Clone(n), make(api.Nat, count)...)
}

// times returns the limbs of a number times a factor, with so many limbs 0 below them.
func times(n api.Nat, factor uint32, low int) api.Nat {
	out := make(api.Nat, low, low+len(n)+1)
	carry := uint64(0)
	for _, limb := range n {
		carry += uint64(limb) * uint64(factor)
		out = append(out, uint32(carry))
		carry >>= 32
	}
	return append(out, uint32(carry))
}
