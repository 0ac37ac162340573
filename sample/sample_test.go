package sample_test

import (
	"slices"
	"testing"

	"relucert/natural"
	"relucert/sample"
)

func TestSameSequence(t *testing.T) {
	r, s := sample.Random(7), sample.Random(7)
	for i := range 1000 {
		limbs := i % 5
		a, b := r.Nat(limbs), s.Nat(limbs)
		if !slices.Equal(a, b) || len(a) != limbs || !natural.Valid(a) {
			t.Fatalf("number %d: %v and %v", i, a, b)
		}
	}
}

func TestBelow(t *testing.T) {
	r := sample.Random(7)
	seen := make([]int, 10)
	for range 1000 {
		seen[r.Below(len(seen))]++
	}
	if slices.Min(seen) < 50 {
		t.Errorf("counts %v", seen)
	}
}
