package rational_test

import (
	"math/big"
	"slices"
	"testing"

	"relucert/api"
	"relucert/rational"
	"relucert/sample"
)

// edges returns the texts of the numbers at which a sign, a limb, two limbs or the type int begin or end, and of fractions around small integers.
func edges() []string {
	return []string{
		"0", "1", "-1", "2", "-2", "7", "1/2", "-1/2", "3/2", "-3/2", "1/3", "-2/3", "5/6", "-7/2", "7/3", "-8/3", "99/100", "-101/100",
		"4294967295", "-4294967295", "4294967296", "1/4294967295", "-1/4294967296", "4294967295/4294967296", "-4294967297/4294967296",
		"9223372036854775807", "-9223372036854775808", "9223372036854775808", "-1/9223372036854775808", "9223372036854775807/9223372036854775808",
		"18446744073709551615", "-18446744073709551616", "1/18446744073709551616", "-18446744073709551617/18446744073709551616",
		"340282366920938463463374607431768211456/3", "-3/340282366920938463463374607431768211456",
	}
}

// numbers returns canonical numbers of both signs: the edges, and some more.
func numbers() []api.Rat {
	var out []api.Rat
	for _, text := range edges() {
		out = append(out, number(text))
	}
	r := sample.Random(88172645463325252)
	for i := range 16 {
		out = append(out, canon(loose(&r, i%4, i/4)))
	}
	return out
}

// loose returns a number of so many limbs above and below the line, of any sign, which may not be canonical.
func loose(r *sample.Random, num, den int) api.Rat {
	return api.Rat{Neg: r.Below(2) == 1, Num: r.Nat(num), Den: r.Nat(den)}
}

// number returns the canonical form of the number of a text, by the definition.
func number(text string) api.Rat {
	v, ok := new(big.Rat).SetString(text)
	if !ok {
		panic(text)
	}
	return made(v)
}

// made returns the canonical form of a number, by the definition. (A big.Rat is always in lowest terms.)
func made(v *big.Rat) api.Rat {
	x := api.Rat{Neg: v.Sign() < 0, Num: limbs(v.Num())}
	if !v.IsInt() {
		x.Den = limbs(v.Denom())
	}
	return x
}

// canon returns the canonical form of a number, by the definition.
func canon(x api.Rat) api.Rat {
	return made(value(x))
}

// limbs returns the canonical limbs of the absolute value of a number.
func limbs(v *big.Int) api.Nat {
	return sample.Limbs(v.Bytes())
}

// magnitude returns the number of limbs, by the definition.
func magnitude(n api.Nat) *big.Int {
	return new(big.Int).SetBytes(sample.Bytes(n))
}

// value returns a number, by the definition.
func value(x api.Rat) *big.Rat {
	num, den := magnitude(x.Num), magnitude(x.Den)
	if den.Sign() == 0 {
		den.SetInt64(1)
	}
	if x.Neg {
		num.Neg(num)
	}
	return new(big.Rat).SetFrac(num, den)
}

// expect checks that a result is the canonical form of a number.
func expect(t *testing.T, what string, got api.Rat, want *big.Rat) {
	t.Helper()
	equal(t, what, got, made(want))
}

// equal checks that two results are the same limbs with the same sign.
func equal(t *testing.T, what string, got, want api.Rat) {
	t.Helper()
	if !sample.SameRat(got, want) {
		t.Errorf("%s: got %v, want %v", what, got, want)
	}
}

// integral returns an integer.
func integral(v *big.Int) api.Int {
	return api.Int{Neg: v.Sign() < 0, Mag: limbs(v)}
}

// equalInt checks that an integer is the canonical form of a number.
func equalInt(t *testing.T, what string, got api.Int, want *big.Int) {
	t.Helper()
	if w := integral(want); got.Neg != w.Neg || !slices.Equal(got.Mag, w.Mag) {
		t.Errorf("%s: got %v, want %v", what, got, w)
	}
}

// div and simplest are the functions for arguments without an error.
func div(t *testing.T, a, b api.Rat) api.Rat {
	t.Helper()
	q, e := rational.Div(a, b)
	if e != api.OK {
		t.Fatalf("Div of %v and %v: error %d", a, b, e)
	}
	return q
}

func simplest(t *testing.T, lo, hi api.Rat) api.Rat {
	t.Helper()
	x, e := rational.Simplest(lo, hi)
	if e != api.OK {
		t.Fatalf("Simplest of %v and %v: error %d", lo, hi, e)
	}
	return x
}
