package dyadic_test

import (
	"math/big"
	"slices"
	"testing"

	"relucert/api"
	"relucert/dyadic"
	"relucert/sample"
)

// calls calls all functions and returns the slices of the numbers that they return, two for each rational number.
func calls(a, b api.Dyadic, x api.Rat) []api.Nat {
	exact, _ := dyadic.Exact(x)
	r := dyadic.Rat(a)
	lower, _ := dyadic.Down(x, 40)
	upper, _ := dyadic.Up(x, 40)
	sum, _ := dyadic.Add(a, b)
	product, _ := dyadic.Mul(a, b)
	dyadic.Valid(a)
	dyadic.Cmp(a, b)
	return []api.Nat{exact.Mag, r.Num, r.Den, lower.Mag, upper.Mag, dyadic.Neg(a).Mag, sum.Mag, product.Mag}
}

// eachCall calls test for many arguments with spare capacity, and with the list of their slices.
func eachCall(test func(a, b api.Dyadic, x api.Rat, arguments []api.Nat)) {
	list := numbers()
	for i, a := range list {
		for _, b := range []api.Dyadic{{}, {Mag: api.Nat{1}}, {Neg: true, Mag: api.Nat{1}}, {Mag: api.Nat{1}, Exp: 32}, list[(7*i+3)%len(list)]} {
			x := dyadic.Rat(a)
			if i%3 == 0 {
				x = rat(new(big.Rat).Mul(value(b), big.NewRat(5, 7)))
			}
			a.Mag, b.Mag, x = sample.Spare(a.Mag), sample.Spare(b.Mag), sample.SpareRat(x)
			test(a, b, x, []api.Nat{a.Mag, b.Mag, x.Num, x.Den})
		}
	}
}

// Arguments are not modified, including the spare capacity of slices (rule 5), and a second call returns the same (rule 6).
func TestArgumentsAndState(t *testing.T) {
	eachCall(func(a, b api.Dyadic, x api.Rat, arguments []api.Nat) {
		before := sample.Copies(arguments)
		first, second := calls(a, b, x), calls(a, b, x)
		if !slices.EqualFunc(first, second, slices.Equal[api.Nat]) {
			t.Errorf("a second call for %v, %v and %v returns something else", a, b, x)
		}
		if !sample.Same(arguments, before) {
			t.Errorf("an argument was modified: %v, %v, %v", a, b, x)
		}
	})
}

// A result is new memory, which it shares neither with an argument nor with another result, and its slices share none (rule 7 of the language).
func TestResultsAreNewMemory(t *testing.T) {
	eachCall(func(a, b api.Dyadic, x api.Rat, arguments []api.Nat) {
		before := sample.Copies(arguments)
		if sample.Shared(calls(a, b, x)) {
			t.Errorf("results share memory: %v, %v, %v", a, b, x)
		}
		if !sample.Same(arguments, before) {
			t.Errorf("a result shares memory with an argument: %v, %v, %v", a, b, x)
		}
	})
}
