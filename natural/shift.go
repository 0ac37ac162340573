package natural

import "relucert/api"

// Shl returns a number times a power of two.
func Shl(a api.Nat, k int) (api.Nat, api.Errno) {
	if k < 0 || k > api.MaxShift {
		return nil, api.ErrRange
	}
	a = trim(a)
	if len(a) == 0 {
		return nil, api.OK
	}
	return trim(shiftLeft(a, k)), api.OK
}

// Shr returns a number divided by a power of two.
func Shr(a api.Nat, k int) (api.Nat, api.Errno) {
	if k < 0 || k > api.MaxShift {
		return nil, api.ErrRange
	}
	a = trim(a)
	a = a[min(k/limbBits, len(a)):]
	out := make(api.Nat, len(a))
	for i := range out {
		out[i] = uint32((limb(a, i) | limb(a, i+1)<<limbBits) >> (k % limbBits))
	}
	return trim(out), api.OK
}

// shiftLeft returns a times 2^k in new memory, with a last limb that may be 0.
func shiftLeft(a api.Nat, k int) api.Nat {
	out := make(api.Nat, k/limbBits+len(a)+1)
	high := out[k/limbBits:]
	for i, x := range a {
		wide := uint64(x) << (k % limbBits)
		high[i] |= uint32(wide)
		high[i+1] = uint32(wide >> limbBits)
	}
	return out
}
