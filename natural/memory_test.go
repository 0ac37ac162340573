package natural_test

import (
	"testing"

	"relucert/api"
	"relucert/natural"
	"relucert/sample"
)

// calls returns the results of all functions that return numbers.
func calls(a, b api.Nat) [][]api.Nat {
	d, _ := natural.Sub(a, b)
	l, _ := natural.Shl(a, 0)
	m, _ := natural.Shl(a, 37)
	r, _ := natural.Shr(a, 0)
	s, _ := natural.Shr(a, 37)
	q, rest, _ := natural.DivMod(a, b)
	return [][]api.Nat{
		{natural.Make(a)}, {natural.Add(a, b)}, {d}, {natural.Mul(a, b)}, {l}, {m}, {r}, {s}, {q, rest}, {natural.Gcd(a, b)},
	}
}

// Arguments are not modified, and results share no memory with them, nor with each other (section Definitions, and rule 5).
func TestMemory(t *testing.T) {
	for _, x := range numbers() {
		for _, y := range edges() {
			a, b := sample.Spare(x), sample.Spare(y)
			arguments := []api.Nat{a, b}
			before := sample.Copies(arguments)
			for _, results := range calls(a, b) {
				if sample.Shared(results) {
					t.Errorf("results for %v and %v share memory", x, y)
				}
			}
			natural.Cmp(a, b)
			natural.Bits(a)
			natural.Uint(a)
			natural.Valid(a)
			if !sample.Same(arguments, before) {
				t.Fatalf("an argument was modified: %v, %v", a, b)
			}
		}
	}
}

// The result of a call depends on its arguments alone (rule 6).
func TestNoStateBetweenCalls(t *testing.T) {
	for _, a := range edges() {
		for _, b := range edges() {
			first, second := calls(a, b), calls(a, b)
			for i := range first {
				for k := range first[i] {
					equal(t, "second call", second[i][k], first[i][k])
				}
			}
		}
	}
}
