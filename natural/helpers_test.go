package natural_test

import (
	"math/big"
	"slices"
	"testing"

	"relucert/api"
	"relucert/natural"
	"relucert/sample"
)

const most = 1<<32 - 1

// edges returns the numbers at which carries, borrows and estimates are at their limits.
func edges() []api.Nat {
	return []api.Nat{
		nil, {1}, {2}, {3}, {most}, {1 << 31}, {0, 1}, {1, 1}, {most, 1}, {most, most}, {0, 1 << 31}, {most, 1 << 31},
		{0, 0, 1}, {1, 0, 1}, {most, most, most}, {0, 0, 1 << 31}, {most, 0, 1 << 31}, {0, most, 1 << 31},
		{3, 0, 1 << 31}, {1, 0, 1 << 29}, {0, most - 1, 1 << 31}, {0, 0, 1 << 31, 1<<31 - 1},
		{0, 0, 0, 1}, {most, most, most, most}, {0, 0, 0, 0, 0, 0, 1}, {most, most, most, most, most, most, most},
	}
}

// numbers returns the edges and some more numbers.
func numbers() []api.Nat {
	out := edges()
	r := sample.Random(88172645463325252)
	for i := range 40 {
		out = append(out, r.Nat(1+i%8))
	}
	return out
}

// padded returns a number with limbs 0 at its end.
func padded(n api.Nat) api.Nat {
	return append(slices.Clone(n), 0, 0)
}

// value returns the number of a slice by its definition.
func value(n api.Nat) *big.Int {
	return new(big.Int).SetBytes(sample.Bytes(n))
}

// expect checks that a result is canonical and denotes a number.
func expect(t *testing.T, what string, got api.Nat, want *big.Int) {
	t.Helper()
	if len(got) > 0 && got[len(got)-1] == 0 {
		t.Errorf("%s: %v is not canonical", what, got)
	}
	if value(got).Cmp(want) != 0 {
		t.Errorf("%s: got %v, want %v", what, value(got), want)
	}
}

// equal checks that two results are the same limbs.
func equal(t *testing.T, what string, got, want api.Nat) {
	t.Helper()
	if !slices.Equal(got, want) {
		t.Errorf("%s: got %v, want %v", what, got, want)
	}
}

// sub, shl, shr and divMod are the functions for arguments without errors.
func sub(t *testing.T, a, b api.Nat) api.Nat {
	t.Helper()
	d, e := natural.Sub(a, b)
	if e != api.OK {
		t.Fatalf("Sub of %v and %v: error %d", a, b, e)
	}
	return d
}

func shl(t *testing.T, a api.Nat, k int) api.Nat {
	t.Helper()
	s, e := natural.Shl(a, k)
	if e != api.OK {
		t.Fatalf("Shl by %d: error %d", k, e)
	}
	return s
}

func shr(t *testing.T, a api.Nat, k int) api.Nat {
	t.Helper()
	s, e := natural.Shr(a, k)
	if e != api.OK {
		t.Fatalf("Shr by %d: error %d", k, e)
	}
	return s
}

func divMod(t *testing.T, a, b api.Nat) (api.Nat, api.Nat) {
	t.Helper()
	q, r, e := natural.DivMod(a, b)
	if e != api.OK {
		t.Fatalf("DivMod of %v and %v: error %d", a, b, e)
	}
	return q, r
}
