package sample_test

import (
	"math/big"
	"slices"
	"testing"

	"relucert/api"
	"relucert/rational"
	"relucert/sample"
)

// rats returns canonical numbers of both signs, with 0 and integers.
func rats() []api.Rat {
	return []api.Rat{{}, {Num: api.Nat{1}}, {Neg: true, Num: api.Nat{7}}, {Num: api.Nat{3}, Den: api.Nat{2}}, {Neg: true, Num: api.Nat{3, 2}, Den: api.Nat{0, 0, 9}}, {Num: api.Nat{1<<32 - 1, 1<<32 - 1}, Den: api.Nat{0, 1}}}
}

// Each form denotes the number, and those with other limbs are not canonical.
func TestForms(t *testing.T) {
	for _, x := range rats() {
		if !rational.Valid(x) {
			t.Fatalf("%v is not canonical", x)
		}
		forms := sample.Forms(x)
		if len(forms) < 5 || !sample.SameRat(forms[0], x) {
			t.Errorf("Forms of %v: %v", x, forms)
		}
		for _, form := range forms {
			if !denotes(form, x) {
				t.Errorf("a form of %v is %v", x, form)
			}
			if rational.Valid(form) != sample.SameRat(form, x) {
				t.Errorf("a form of %v is %v", x, form)
			}
		}
	}
}

// denotes reports whether a value denotes a canonical number, by the definition.
func denotes(form, x api.Rat) bool {
	num, den := magnitude(form.Num), magnitude(form.Den)
	if den.Sign() == 0 {
		den.SetInt64(1)
	}
	wantDen := big.NewInt(1)
	if len(x.Den) > 0 {
		wantDen = magnitude(x.Den)
	}
	same := num.Mul(num, wantDen).Cmp(den.Mul(den, magnitude(x.Num))) == 0
	return same && (num.Sign() == 0 || form.Neg == x.Neg)
}

// magnitude returns the number of limbs.
func magnitude(n api.Nat) *big.Int {
	return new(big.Int).SetBytes(sample.Bytes(n))
}

func TestSameRat(t *testing.T) {
	for i, a := range rats() {
		for k, b := range rats() {
			if sample.SameRat(a, b) != (i == k) {
				t.Errorf("SameRat of %v and %v: %v", a, b, i != k)
			}
		}
		b := a
		b.Neg = !a.Neg
		if sample.SameRat(a, b) {
			t.Errorf("%v is the same as %v", a, b)
		}
		b = a
		b.Den = append(slices.Clone(a.Den), 0)
		if sample.SameRat(a, b) {
			t.Errorf("%v is the same as %v", a, b)
		}
	}
}

func TestSpareRat(t *testing.T) {
	for _, x := range rats() {
		y := sample.SpareRat(x)
		if !sample.SameRat(x, y) || cap(y.Num) == len(y.Num) || cap(y.Den) == len(y.Den) {
			t.Errorf("SpareRat of %v: %v", x, y)
		}
		if sample.Shared([]api.Nat{y.Num, y.Den, x.Num, x.Den}) {
			t.Errorf("SpareRat of %v shares memory", x)
		}
	}
}
