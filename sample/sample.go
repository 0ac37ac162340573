// Package sample makes numbers for the tests of the layers, and watches their memory. No layer imports it.
package sample

import "relucert/api"

// Random is a generator of numbers (xorshift). Its sequence follows from its first value, which is not 0, so that each run of a test is the same.
type Random uint64

// Next returns the next number of the sequence.
func (r *Random) Next() uint64 {
	x := uint64(*r)
	x ^= x << 13
	x ^= x >> 7
	x ^= x << 17
	*r = Random(x)
	return x
}

// Below returns a number that is at least 0 and less than n, which is positive.
func (r *Random) Below(n int) int {
	// The lowest bits of successive numbers are related most closely.
	return int(r.Next() >> 20 % uint64(n))
}

// Nat returns a canonical number with so many limbs. Many of them are 0 or the greatest one, since carries and estimates are at their limits there.
func (r *Random) Nat(limbs int) api.Nat {
	out := make(api.Nat, limbs)
	for i := range out {
		switch r.Below(4) {
		case 0:
			out[i] = 0
		case 1:
			out[i] = 1<<32 - 1
		default:
			out[i] = uint32(r.Next() >> 16)
		}
	}
	if limbs > 0 && out[limbs-1] == 0 {
		out[limbs-1] = 1 + uint32(r.Next()>>40)
	}
	return out
}
