package integer_test

import (
	"slices"
	"testing"

	"relucert/api"
	"relucert/integer"
)

// calls calls all functions and returns the numbers that they return.
func calls(a, b api.Int) []api.Int {
	q, r, _ := integer.DivMod(a, b)
	integer.Valid(a)
	integer.Int(a)
	integer.Cmp(a, b)
	integer.Sign(a)
	return []api.Int{integer.Make(a.Neg, a.Mag), integer.Neg(a), integer.Add(a, b), integer.Sub(a, b), integer.Mul(a, b), q, r}
}

// spare returns a number in a slice with capacity behind it that contains other limbs.
func spare(x api.Int) api.Int {
	x.Mag = append(slices.Clone(x.Mag), 11, 12, 13)[:len(x.Mag)]
	return x
}

// Arguments are not modified, including the spare capacity of slices (rule 5), and a second call returns the same (rule 6).
func TestArgumentsAndState(t *testing.T) {
	for _, x := range numbers() {
		for _, y := range numbers() {
			a, b := spare(x), spare(y)
			allA, allB := slices.Clone(a.Mag[:cap(a.Mag)]), slices.Clone(b.Mag[:cap(b.Mag)])
			first := calls(a, b)
			for i, n := range calls(a, b) {
				equal(t, "second call", n, first[i])
			}
			if !slices.Equal(a.Mag[:cap(a.Mag)], allA) || !slices.Equal(b.Mag[:cap(b.Mag)], allB) {
				t.Fatalf("an argument was modified: %v, %v", a, b)
			}
		}
	}
}

// A number remains what it is while later calls are made with it and with what was made from it (rule 5).
func TestResultsRemain(t *testing.T) {
	for _, x := range numbers() {
		for _, y := range numbers() {
			results := calls(x, y)
			var copies []api.Int
			for _, n := range results {
				copies = append(copies, api.Int{Neg: n.Neg, Mag: slices.Clone(n.Mag)})
			}
			for _, n := range results {
				calls(n, x)
				calls(y, n)
			}
			for i, n := range results {
				equal(t, "result after later calls", n, copies[i])
			}
		}
	}
}
