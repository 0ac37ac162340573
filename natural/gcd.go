package natural

import "relucert/api"

// Gcd returns the greatest common divisor.
func Gcd(a, b api.Nat) api.Nat {
	a, b = Make(a), Make(b)
	if Cmp(a, b) < 0 {
		a, b = b, a
	}
	for len(b) > 2 {
		a, b = reduce(a, b)
	}
	if len(b) == 0 {
		return a
	}
	_, r, _ := DivMod(a, b)
	return Of(smallGcd(low(b), low(r)))
}

// smallGcd returns the greatest common divisor of numbers that fit in 64 bits.
func smallGcd(x, y uint64) uint64 {
	for y != 0 {
		x, y = y, x%y
	}
	return x
}

// reduce performs steps of Euclid's algorithm, at least one, on canonical numbers a >= b of at least three limbs, and returns the last two remainders.
func reduce(a, b api.Nat) (api.Nat, api.Nat) {
	// A division of large numbers is costly, so Lehmer's method takes many steps at once from the leading bits alone.
	shift := Bits(a) - 64
	c := leadingSteps(window(a, shift), window(b, shift))
	switch {
	case c.bForA == 0:
		_, r, _ := DivMod(a, b)
		return b, r
	case c.odd:
		return difference(b, c.bForA, a, c.aForA), difference(a, c.aForB, b, c.bForB)
	}
	return difference(a, c.aForA, b, c.bForA), difference(b, c.bForB, a, c.aForB)
}

// window returns the number that the bits of n from bit shift on form, which is less than 2^64.
func window(n api.Nat, shift int) uint64 {
	i, k := shift/limbBits, shift%limbBits
	return (limb(n, i)|limb(n, i+1)<<limbBits)>>k | limb(n, i+2)<<(64-k)
}

// cofactors express two successive remainders of Euclid's algorithm by the numbers a and b it began with: the first one is the difference of aForA a and bForA b, the second one that of bForB b and aForB a. The differences are to be taken the other way round if the number of steps is odd.
type cofactors struct {
	aForA, bForA, aForB, bForB uint64
	odd                        bool
}

// leadingSteps returns the cofactors of steps of Euclid's algorithm that two numbers and their leading bits x and y have in common. They are less than 2^32; bForA is 0 if there is no such step.
func leadingSteps(x, y uint64) cofactors {
	next := cofactors{aForA: 1, bForB: 1}
	c := next
	// Collins's condition: whatever bits were cut off, all quotients so far are those of the whole numbers.
	for y >= next.bForB && x-y >= next.bForA+next.bForB {
		q := x / y
		x, y = y, x%y
		c = next
		next = cofactors{
			aForA: c.aForB, bForA: c.bForB,
			aForB: c.aForA + q*c.aForB, bForB: c.bForA + q*c.bForB,
			odd: !c.odd,
		}
	}
	return c
}

// difference returns a x - b y, which is not negative and fits in the limbs of each of the numbers, so that the products cancel above them. The factors x and y are less than 2^32.
func difference(a api.Nat, x uint64, b api.Nat, y uint64) api.Nat {
	out := make(api.Nat, min(len(a), len(b)))
	var plus, minus uint64
	for i := range out {
		plus += uint64(a[i]) * x
		minus += uint64(b[i]) * y
		p, m := uint32(plus), uint32(minus)
		plus >>= limbBits
		minus >>= limbBits
		if p < m {
			minus++
		}
		out[i] = p - m
	}
	return trim(out)
}
