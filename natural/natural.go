// Package natural implements layer 1: natural numbers of any size. See shared/doc/01-natural.md.
package natural

import (
	"cmp"
	"math/bits"

	"relucert/api"
)

// limbBits is the number of bits of a limb.
const limbBits = 32

// Make returns the canonical slice of a number.
func Make(l []uint32) api.Nat {
	return append(api.Nat(nil), trim(l)...)
}

// Valid reports whether a slice is canonical.
func Valid(n api.Nat) bool {
	return len(n) == 0 || n[len(n)-1] != 0
}

// Of returns a number.
func Of(x uint64) api.Nat {
	return trim([]uint32{uint32(x), uint32(x >> limbBits)})
}

// Uint returns a number that is less than 2^64.
func Uint(n api.Nat) (uint64, bool) {
	n = trim(n)
	if len(n) > 2 {
		return 0, false
	}
	return low(n), true
}

// Cmp compares two numbers.
func Cmp(a, b api.Nat) int {
	a, b = trim(a), trim(b)
	if len(a) != len(b) {
		return cmp.Compare(len(a), len(b))
	}
	for i := len(a) - 1; i >= 0; i-- {
		if a[i] != b[i] {
			return cmp.Compare(a[i], b[i])
		}
	}
	return 0
}

// Bits returns the number of bits.
func Bits(n api.Nat) int {
	n = trim(n)
	if len(n) == 0 {
		return 0
	}
	return limbBits*(len(n)-1) + bits.Len32(n[len(n)-1])
}

// trim returns the limbs of n without those that are 0 at its end. It does not copy them.
func trim(n []uint32) api.Nat {
	k := len(n)
	for k > 0 && n[k-1] == 0 {
		k--
	}
	if k == 0 {
		return nil
	}
	return n[:k]
}

// limb returns limb i of n, which is 0 behind its end.
func limb(n api.Nat, i int) uint64 {
	if i >= len(n) {
		return 0
	}
	return uint64(n[i])
}

// low returns the number of the first two limbs.
func low(n api.Nat) uint64 {
	return limb(n, 0) | limb(n, 1)<<limbBits
}
