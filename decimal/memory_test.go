package decimal_test

import (
	"slices"
	"testing"

	"relucert/api"
	"relucert/decimal"
	"relucert/sample"
)

// Arguments are not modified, including the spare capacity of slices (rule 5), and a second call returns the same (rule 6).
func TestArgumentsAndState(t *testing.T) {
	for _, x := range numbers() {
		x = sample.SpareRat(x)
		arguments := []api.Nat{x.Num, x.Den}
		before := sample.Copies(arguments)
		text, places := decimal.Text(x), fixed(t, x, 12)
		if decimal.Text(x) != text || fixed(t, x, 12) != places {
			t.Errorf("a second call for %v returns something else", x)
		}
		if !sample.Same(arguments, before) {
			t.Errorf("an argument was modified: %v", x)
		}
	}
}

// Parsed numbers are new memory, which they share neither with each other nor within (rule 7 of the language), and a call does not depend on the ones before it (rule 6).
func TestParsedNumbersAreNewMemory(t *testing.T) {
	texts := []string{"1", "-10", "3/4", "0.5", "-4294967296/4294967297", "1000000000000000000000/7", "18446744073709551616.0000000001"}
	for _, s := range texts {
		first, second := parsed(t, s), parsed(t, s)
		want := api.Rat{Neg: first.Neg, Num: slices.Clone(first.Num), Den: slices.Clone(first.Den)}
		sample.Overwrite(first.Num)
		if !slices.Equal(first.Den, want.Den) {
			t.Errorf("the parts of the number of %q share memory", s)
		}
		sample.Overwrite(first.Den)
		decimal.Parse("12x")
		decimal.Parse("99/98")
		if !sample.SameRat(second, want) || !sample.SameRat(parsed(t, s), want) {
			t.Errorf("a call changes the number of %q", s)
		}
	}
}
