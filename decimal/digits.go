package decimal

import (
	"bytes"
	"slices"

	"relucert/api"
	"relucert/natural"
)

// Digits are converted in groups, since the time to convert a long number is that of as many operations on long numbers. A group fits in a limb: division by one limb is the fastest.
const (
	groupDigits = 9
	groupRange  = 1_000_000_000
)

// digitsOf returns the decimal digits of a number, at least so many of them, without leading zeros otherwise.
func digitsOf(n api.Nat, least int) string {
	var out []byte
	for natural.Bits(n) > 0 {
		rest, group, _ := natural.DivMod(n, natural.Of(groupRange))
		out = appendGroup(out, group)
		n = rest
	}
	out = bytes.TrimRight(out, "0")
	for len(out) < least {
		out = append(out, '0')
	}
	slices.Reverse(out)
	return string(out)
}

// appendGroup appends the digits of a group to out, from the last one to the first one.
func appendGroup(out []byte, group api.Nat) []byte {
	x, _ := natural.Uint(group)
	for range groupDigits {
		out = append(out, '0'+byte(x%10))
		x /= 10
	}
	return out
}

// numberOf returns the number of decimal digits.
func numberOf(digits string) api.Nat {
	var n api.Nat
	for group := range slices.Chunk([]byte(digits), groupDigits) {
		x, unit := uint64(0), uint64(1)
		for _, digit := range group {
			x = 10*x + uint64(digit-'0')
			unit *= 10
		}
		n = natural.Add(natural.Mul(n, natural.Of(unit)), natural.Of(x))
	}
	return n
}

// powerOfTen returns 10^k for a k that is not negative.
func powerOfTen(k int) api.Nat {
	if k == 0 {
		return natural.Of(1)
	}
	root := powerOfTen(k / 2)
	power := natural.Mul(root, root)
	if k%2 == 1 {
		power = natural.Mul(power, natural.Of(10))
	}
	return power
}
