package natural

import "relucert/api"

// Add returns the sum.
func Add(a, b api.Nat) api.Nat {
	if len(a) < len(b) {
		a, b = b, a
	}
	sum := make(api.Nat, len(a)+1)
	var carry uint64
	for i, x := range a {
		carry += uint64(x) + limb(b, i)
		sum[i] = uint32(carry)
		carry >>= limbBits
	}
	sum[len(a)] = uint32(carry)
	return trim(sum)
}

// Sub returns the difference.
func Sub(a, b api.Nat) (api.Nat, api.Errno) {
	if Cmp(a, b) < 0 {
		return nil, api.ErrRange
	}
	diff := make(api.Nat, len(a))
	var borrow uint64
	for i, x := range a {
		// A negative difference wraps around, so that its bits above the limb are ones.
		d := uint64(x) - limb(b, i) - borrow
		diff[i] = uint32(d)
		borrow = d >> 63
	}
	return trim(diff), api.OK
}

// Mul returns the product.
func Mul(a, b api.Nat) api.Nat {
	// Limbs 0 would not change the product, but the time to compute it.
	a, b = trim(a), trim(b)
	if len(a) > len(b) {
		a, b = b, a
	}
	product := make(api.Nat, len(a)+len(b))
	for i, x := range a {
		product[i+len(b)] = addMultiple(product[i:i+len(b)], b, x)
	}
	return trim(product)
}

// addMultiple adds b times x to sum, which has as many limbs as b, and returns the carry.
func addMultiple(sum, b api.Nat, x uint32) uint32 {
	var carry uint64
	for i, y := range b {
		// No overflow: with m = 2^32 - 1, it is at most m m + m + m = 2^64 - 1.
		carry += uint64(x)*uint64(y) + uint64(sum[i])
		sum[i] = uint32(carry)
		carry >>= limbBits
	}
	return uint32(carry)
}
