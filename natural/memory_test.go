package natural_test

import (
	"slices"
	"testing"

	"relucert/api"
	"relucert/natural"
)

// calls returns the results of all functions that return numbers.
func calls(a, b api.Nat) [][]api.Nat {
	d, _ := natural.Sub(a, b)
	l, _ := natural.Shl(a, 0)
	m, _ := natural.Shl(a, 37)
	r, _ := natural.Shr(a, 0)
	s, _ := natural.Shr(a, 37)
	q, rest, _ := natural.DivMod(a, b)
	return [][]api.Nat{
		{natural.Make(a)}, {natural.Add(a, b)}, {d}, {natural.Mul(a, b)}, {l}, {m}, {r}, {s}, {q, rest}, {natural.Gcd(a, b)},
	}
}

// spare returns a number in a slice with capacity behind it that contains other limbs.
func spare(n api.Nat) api.Nat {
	return append(slices.Clone(n), 11, 12, 13)[:len(n)]
}

// overwrite changes all the memory of a result.
func overwrite(n api.Nat) {
	n = n[:cap(n)]
	for i := range n {
		n[i] ^= 0x5a5a5a5a
	}
}

// Arguments are not modified, and results share no memory with them, nor with each other (section Definitions, and rule 5).
func TestMemory(t *testing.T) {
	for _, x := range numbers() {
		for _, y := range edges() {
			a, b := spare(x), spare(y)
			allA, allB := slices.Clone(a[:cap(a)]), slices.Clone(b[:cap(b)])
			for _, results := range calls(a, b) {
				testResults(t, results)
			}
			natural.Cmp(a, b)
			natural.Bits(a)
			natural.Uint(a)
			natural.Valid(a)
			if !slices.Equal(a[:cap(a)], allA) || !slices.Equal(b[:cap(b)], allB) {
				t.Fatalf("an argument was modified: %v, %v", a, b)
			}
		}
	}
}

// testResults overwrites the results of a call and checks that no other result changes with them.
func testResults(t *testing.T, results []api.Nat) {
	t.Helper()
	for i, n := range results {
		var others []api.Nat
		for _, other := range results[i+1:] {
			others = append(others, slices.Clone(other))
		}
		overwrite(n)
		for k, other := range results[i+1:] {
			equal(t, "another result", other, others[k])
		}
	}
}

// The result of a call depends on its arguments alone (rule 6).
func TestNoStateBetweenCalls(t *testing.T) {
	for _, a := range edges() {
		for _, b := range edges() {
			first, second := calls(a, b), calls(a, b)
			for i := range first {
				for k := range first[i] {
					equal(t, "second call", second[i][k], first[i][k])
				}
			}
		}
	}
}
