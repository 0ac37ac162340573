package rational_test

import (
	"slices"
	"testing"

	"relucert/api"
	"relucert/rational"
)

// calls calls all functions and returns the numbers that they return; an integer is the numerator of one, and a natural number its denominator.
func calls(a, b api.Rat) []api.Rat {
	made, _ := rational.Make(api.Int{Neg: a.Neg, Mag: a.Num}, api.Int{Neg: b.Neg, Mag: b.Num})
	quotient, _ := rational.Div(a, b)
	simple, _ := rational.Simplest(a, b)
	num, floor := rational.Num(a), rational.Floor(a)
	rational.Valid(a)
	rational.Cmp(a, b)
	rational.Sign(a)
	return []api.Rat{
		made, rational.Canon(a), {Neg: num.Neg, Num: num.Mag}, {Den: rational.Den(a)}, rational.Neg(a), rational.Add(a, b), rational.Sub(a, b), rational.Mul(a, b), quotient,
		rational.Min(a, b), rational.Max(a, b), {Neg: floor.Neg, Num: floor.Mag}, simple,
	}
}

// spare returns a number in slices with capacity behind them that contains other limbs.
func spare(x api.Rat) api.Rat {
	x.Num = append(slices.Clone(x.Num), 11, 12, 13)[:len(x.Num)]
	x.Den = append(slices.Clone(x.Den), 14, 15, 16)[:len(x.Den)]
	return x
}

// whole returns a copy of all the memory of a number, with the spare capacity.
func whole(x api.Rat) api.Rat {
	return api.Rat{Neg: x.Neg, Num: slices.Clone(x.Num[:cap(x.Num)]), Den: slices.Clone(x.Den[:cap(x.Den)])}
}

// overwrite changes all the memory of a slice.
func overwrite(n api.Nat) {
	n = n[:cap(n)]
	for i := range n {
		n[i] ^= 0x5a5a5a5a
	}
}

// eachPair calls test for pairs of numbers that are in part not canonical.
func eachPair(test func(a, b api.Rat)) {
	for i, x := range numbers() {
		for j, y := range numbers() {
			a, b := forms(x), forms(y)
			test(spare(a[j%len(a)]), spare(b[i%len(b)]))
			test(spare(x), spare(y))
		}
	}
}

// Arguments are not modified, including the spare capacity of slices (rule 5), and a second call returns the same (rule 6).
func TestArgumentsAndState(t *testing.T) {
	eachPair(func(a, b api.Rat) {
		allA, allB := whole(a), whole(b)
		first := calls(a, b)
		for i, x := range calls(a, b) {
			equal(t, "second call", x, first[i])
		}
		if !same(whole(a), allA) || !same(whole(b), allB) {
			t.Fatalf("an argument was modified: %v, %v", a, b)
		}
	})
}

// A result is new memory, which it shares neither with an argument nor with another result, and its slices share none (rule 7 of the language).
func TestResultsAreNewMemory(t *testing.T) {
	eachPair(func(a, b api.Rat) {
		allA, allB := whole(a), whole(b)
		var results []api.Nat
		for _, x := range calls(a, b) {
			results = append(results, x.Num, x.Den)
		}
		for i, n := range results {
			later := copies(results[i+1:])
			overwrite(n)
			for k, other := range results[i+1:] {
				if !slices.Equal(other, later[k]) {
					t.Fatalf("results share memory: %v, %v", a, b)
				}
			}
		}
		if !same(whole(a), allA) || !same(whole(b), allB) {
			t.Fatalf("a result shares memory with an argument: %v, %v", a, b)
		}
	})
}

// copies returns copies of slices.
func copies(list []api.Nat) []api.Nat {
	var out []api.Nat
	for _, n := range list {
		out = append(out, slices.Clone(n))
	}
	return out
}
