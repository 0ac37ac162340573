package rational_test

import (
	"testing"

	"relucert/api"
	"relucert/rational"
	"relucert/sample"
)

// calls calls all functions and returns the numbers that they return; an integer is the numerator of one, and a natural number its denominator.
func calls(a, b api.Rat) []api.Rat {
	made, _ := rational.Make(api.Int{Neg: a.Neg, Mag: a.Num}, api.Int{Neg: b.Neg, Mag: b.Num})
	quotient, _ := rational.Div(a, b)
	simple, _ := rational.Simplest(a, b)
	num, floor := rational.Num(a), rational.Floor(a)
	rational.Valid(a)
	rational.Cmp(a, b)
	rational.Sign(a)
	return []api.Rat{
		made, rational.Canon(a), {Neg: num.Neg, Num: num.Mag}, {Den: rational.Den(a)}, rational.Neg(a), rational.Add(a, b), rational.Sub(a, b), rational.Mul(a, b), quotient,
		rational.Min(a, b), rational.Max(a, b), {Neg: floor.Neg, Num: floor.Mag}, simple,
	}
}

// eachPair calls test for pairs of numbers that are in part not canonical.
func eachPair(test func(a, b api.Rat)) {
	for i, x := range numbers() {
		for j, y := range numbers() {
			a, b := sample.Forms(x), sample.Forms(y)
			test(sample.SpareRat(a[j%len(a)]), sample.SpareRat(b[i%len(b)]))
			test(sample.SpareRat(x), sample.SpareRat(y))
		}
	}
}

// Arguments are not modified, including the spare capacity of slices (rule 5), and a second call returns the same (rule 6).
func TestArgumentsAndState(t *testing.T) {
	eachPair(func(a, b api.Rat) {
		arguments := []api.Nat{a.Num, a.Den, b.Num, b.Den}
		before := sample.Copies(arguments)
		first := calls(a, b)
		for i, x := range calls(a, b) {
			equal(t, "second call", x, first[i])
		}
		if !sample.Same(arguments, before) {
			t.Fatalf("an argument was modified: %v, %v", a, b)
		}
	})
}

// A result is new memory, which it shares neither with an argument nor with another result, and its slices share none (rule 7 of the language).
func TestResultsAreNewMemory(t *testing.T) {
	eachPair(func(a, b api.Rat) {
		arguments := []api.Nat{a.Num, a.Den, b.Num, b.Den}
		before := sample.Copies(arguments)
		var results []api.Nat
		for _, x := range calls(a, b) {
			results = append(results, x.Num, x.Den)
		}
		if sample.Shared(results) {
			t.Fatalf("results share memory: %v, %v", a, b)
		}
		if !sample.Same(arguments, before) {
			t.Fatalf("a result shares memory with an argument: %v, %v", a, b)
		}
	})
}
