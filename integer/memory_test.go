package integer_test

import (
	"slices"
	"testing"

	"relucert/api"
	"relucert/integer"
	"relucert/sample"
)

// calls calls all functions and returns the numbers that they return.
func calls(a, b api.Int) []api.Int {
	q, r, _ := integer.DivMod(a, b)
	integer.Valid(a)
	integer.Int(a)
	integer.Cmp(a, b)
	integer.Sign(a)
	return []api.Int{integer.Make(a.Neg, a.Mag), integer.Neg(a), integer.Add(a, b), integer.Sub(a, b), integer.Mul(a, b), q, r}
}

// Arguments are not modified, including the spare capacity of slices (rule 5), and a second call returns the same (rule 6).
func TestArgumentsAndState(t *testing.T) {
	for _, x := range numbers() {
		for _, y := range numbers() {
			a, b := x, y
			a.Mag, b.Mag = sample.Spare(x.Mag), sample.Spare(y.Mag)
			arguments := []api.Nat{a.Mag, b.Mag}
			before := sample.Copies(arguments)
			first := calls(a, b)
			for i, n := range calls(a, b) {
				equal(t, "second call", n, first[i])
			}
			if !sample.Same(arguments, before) {
				t.Fatalf("an argument was modified: %v, %v", a, b)
			}
		}
	}
}

// A number remains what it is while later calls are made with it and with what was made from it (rule 5).
func TestResultsRemain(t *testing.T) {
	for _, x := range numbers() {
		for _, y := range numbers() {
			results := calls(x, y)
			var copies []api.Int
			for _, n := range results {
				copies = append(copies, api.Int{Neg: n.Neg, Mag: slices.Clone(n.Mag)})
			}
			for _, n := range results {
				calls(n, x)
				calls(y, n)
			}
			for i, n := range results {
				equal(t, "result after later calls", n, copies[i])
			}
		}
	}
}
