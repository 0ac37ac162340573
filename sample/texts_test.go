package sample_test

import (
	"slices"
	"testing"

	"relucert/api"
	"relucert/sample"
)

func TestNumbers(t *testing.T) {
	got := sample.Numbers("0", "-7", "6/4", "-0.125", "4294967296")
	want := []api.Rat{{}, {Neg: true, Num: api.Nat{7}}, {Num: api.Nat{3}, Den: api.Nat{2}}, {Neg: true, Num: api.Nat{1}, Den: api.Nat{8}}, {Num: api.Nat{0, 1}}}
	if !slices.EqualFunc(got, want, sample.SameRat) {
		t.Errorf("Numbers: %v", got)
	}
	defer func() {
		if recover() == nil {
			t.Error("a text that is none of a number is not noticed")
		}
	}()
	sample.Number("x")
}
