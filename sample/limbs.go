package sample

import (
	"slices"

	"relucert/api"
)

// Bytes returns the bytes of the number of limbs, the most significant one first, as package math/big reads them.
func Bytes(n api.Nat) []byte {
	out := make([]byte, 0, 4*len(n))
	for _, x := range slices.Backward(n) {
		out = append(out, byte(x>>24), byte(x>>16), byte(x>>8), byte(x))
	}
	return out
}

// Limbs returns the canonical limbs of the number of bytes, the most significant one first, as package math/big writes them.
func Limbs(bytes []byte) api.Nat {
	out := make(api.Nat, (len(bytes)+3)/4)
	for i := range bytes {
		out[i/4] |= uint32(bytes[len(bytes)-1-i]) << (i % 4 * 8)
	}
	for len(out) > 0 && out[len(out)-1] == 0 {
		out = out[:len(out)-1]
	}
	return out
}

// Spare returns a copy of limbs with capacity behind them that contains other limbs.
func Spare(n api.Nat) api.Nat {
	return append(slices.Clone(n), 11, 12, 13)[:len(n)]
}

// Memory returns a copy of all the memory of limbs, with the spare capacity.
func Memory(n api.Nat) api.Nat {
	return slices.Clone(n[:cap(n)])
}

// Overwrite changes all the memory of limbs, with the spare capacity.
func Overwrite(n api.Nat) {
	n = n[:cap(n)]
	for i := range n {
		n[i] ^= 0x5a5a5a5a
	}
}

// Copies returns copies of all the memory of slices.
func Copies(list []api.Nat) []api.Nat {
	var out []api.Nat
	for _, n := range list {
		out = append(out, Memory(n))
	}
	return out
}

// Same reports whether all the memory of slices is as it was when copies of it were made.
func Same(list, copies []api.Nat) bool {
	return slices.EqualFunc(list, copies, func(n, before api.Nat) bool { return slices.Equal(n[:cap(n)], before) })
}

// Shared overwrites slices, one after another, and reports whether one of the others changes with it.
func Shared(list []api.Nat) bool {
	for i, n := range list {
		others := list[i+1:]
		before := Copies(others)
		Overwrite(n)
		if !Same(others, before) {
			return true
		}
	}
	return false
}
