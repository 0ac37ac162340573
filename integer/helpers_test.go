package integer_test

import (
	"math/big"
	"slices"
	"testing"

	"relucert/api"
	"relucert/integer"
	"relucert/sample"
)

const most = 1<<32 - 1

// number returns a canonical number of so many limbs, of any sign.
func number(r *sample.Random, limbs int) api.Int {
	return api.Int{Neg: limbs > 0 && r.Below(2) == 1, Mag: r.Nat(limbs)}
}

// magnitudes returns those of the edges: 0, the ends of a limb, of two limbs and of the type int, and numbers with limbs 0.
func magnitudes() []api.Nat {
	return []api.Nat{
		nil, {1}, {2}, {3}, {7}, {most}, {0, 1}, {1, 1}, {most - 1, 1<<31 - 1}, {most, 1<<31 - 1}, {0, 1 << 31}, {1, 1 << 31},
		{most, most}, {0, 0, 1}, {0, most, 1}, {most, most, most}, {0, 0, 0, 1},
	}
}

// numbers returns canonical numbers of both signs: the edges, and some more.
func numbers() []api.Int {
	var out []api.Int
	for _, mag := range magnitudes() {
		out = append(out, api.Int{Mag: mag})
		if len(mag) > 0 {
			out = append(out, api.Int{Neg: true, Mag: mag})
		}
	}
	r := sample.Random(88172645463325252)
	for i := range 20 {
		out = append(out, number(&r, 1+i%6))
	}
	return out
}

// forms returns the canonical form of a number, and others: with limbs 0 at the end, and a negative 0.
func forms(x api.Int) []api.Int {
	out := []api.Int{x, padded(x)}
	if len(x.Mag) == 0 {
		out = append(out, api.Int{Neg: true}, api.Int{Neg: true, Mag: api.Nat{0, 0}})
	}
	return out
}

// padded returns a number with limbs 0 at its end.
func padded(x api.Int) api.Int {
	return api.Int{Neg: x.Neg, Mag: append(slices.Clone(x.Mag), 0, 0)}
}

// value returns a number by its definition.
func value(x api.Int) *big.Int {
	v := new(big.Int).SetBytes(sample.Bytes(x.Mag))
	if x.Neg {
		v.Neg(v)
	}
	return v
}

// canonical is the definition of the chapter.
func canonical(x api.Int) bool {
	if len(x.Mag) == 0 {
		return !x.Neg
	}
	return x.Mag[len(x.Mag)-1] != 0
}

// expect checks that a result is canonical and is a number.
func expect(t *testing.T, what string, got api.Int, want *big.Int) {
	t.Helper()
	if !canonical(got) {
		t.Errorf("%s: %v is not canonical", what, got)
	}
	if value(got).Cmp(want) != 0 {
		t.Errorf("%s: got %v, want %v", what, value(got), want)
	}
}

// equal checks that two results are the same limbs with the same sign.
func equal(t *testing.T, what string, got, want api.Int) {
	t.Helper()
	if got.Neg != want.Neg || !slices.Equal(got.Mag, want.Mag) {
		t.Errorf("%s: got %v, want %v", what, got, want)
	}
}

// divMod is DivMod of arguments without an error.
func divMod(t *testing.T, a, b api.Int) (api.Int, api.Int) {
	t.Helper()
	q, r, e := integer.DivMod(a, b)
	if e != api.OK {
		t.Fatalf("DivMod of %v and %v: error %d", a, b, e)
	}
	return q, r
}
