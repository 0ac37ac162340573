package interval_test

import (
	"slices"
	"testing"

	"relucert/api"
	"relucert/interval"
	"relucert/sample"
)

// calls calls all functions and returns the slices of the intervals that they return, four for each one.
func calls(a, b api.Interval, x api.Rat) []api.Nat {
	made, _ := interval.Make(a.Lo, x)
	both, _ := interval.Meet(a, b)
	rounded, _ := interval.Round(a, 40)
	interval.Valid(a)
	interval.Contains(a, x)
	interval.Within(a, b)
	var out []api.Nat
	for _, i := range []api.Interval{made, interval.Add(a, b), interval.Neg(a), interval.Scale(a, x), interval.Mul(a, b), interval.Relu(a), interval.Join(a, b), both, rounded} {
		out = append(out, slicesOf(i)...)
	}
	return out
}

// slicesOf returns the slices of an interval.
func slicesOf(i api.Interval) []api.Nat {
	return []api.Nat{i.Lo.Num, i.Lo.Den, i.Hi.Num, i.Hi.Den}
}

// spare returns a copy of an interval whose slices have spare capacity.
func spare(i api.Interval) api.Interval {
	return api.Interval{Lo: sample.SpareRat(i.Lo), Hi: sample.SpareRat(i.Hi)}
}

// eachCall calls test for many arguments with spare capacity, and with the list of their slices.
func eachCall(test func(a, b api.Interval, x api.Rat, arguments []api.Nat)) {
	list := many()
	for i, p := range pairs(list) {
		for k, q := range pairs(list) {
			forms := sample.Forms(list[(i+5*k)%len(list)])
			a, b, x := spare(p.Interval), spare(q.Interval), sample.SpareRat(forms[k%len(forms)])
			test(a, b, x, slices.Concat(slicesOf(a), slicesOf(b), []api.Nat{x.Num, x.Den}))
		}
	}
}

// Arguments are not modified, including the spare capacity of slices (rule 5), and a second call returns the same (rule 6).
func TestArgumentsAndState(t *testing.T) {
	eachCall(func(a, b api.Interval, x api.Rat, arguments []api.Nat) {
		before := sample.Copies(arguments)
		first, second := calls(a, b, x), calls(a, b, x)
		if !slices.EqualFunc(first, second, slices.Equal[api.Nat]) {
			t.Errorf("a second call for %s, %s and %v returns something else", show(a), show(b), x)
		}
		if !sample.Same(arguments, before) {
			t.Errorf("an argument was modified: %v, %v, %v", a, b, x)
		}
	})
}

// A result is new memory, which it shares neither with an argument nor with another result, and its slices share none (rule 7 of the language).
func TestResultsAreNewMemory(t *testing.T) {
	eachCall(func(a, b api.Interval, x api.Rat, arguments []api.Nat) {
		before := sample.Copies(arguments)
		if sample.Shared(calls(a, b, x)) {
			t.Errorf("results share memory: %v, %v, %v", a, b, x)
		}
		if !sample.Same(arguments, before) {
			t.Errorf("a result shares memory with an argument: %v, %v, %v", a, b, x)
		}
	})
}
