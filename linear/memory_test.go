package linear_test

import (
	"fmt"
	"slices"
	"testing"

	"relucert/api"
	"relucert/linear"
	"relucert/sample"
)

// argument is the arguments of calls of all functions.
type argument struct {
	f, g  api.Affine
	terms []api.Term // of Make
	v     int
	x     []api.Rat
	box   []api.Interval
	c     api.Rat
}

// outcome is the memory that calls returned: the slices of numbers, and of terms.
type outcome struct {
	limbs []api.Nat
	terms [][]api.Term
}

// addForms and addNumbers add the memory of forms and of numbers.
func (o *outcome) addForms(list ...api.Affine) {
	for _, f := range list {
		o.terms = append(o.terms, f.Terms)
		o.addNumbers(f.Const)
		for _, t := range f.Terms {
			o.addNumbers(t.Coef)
		}
	}
}

func (o *outcome) addNumbers(list ...api.Rat) {
	for _, x := range list {
		o.limbs = append(o.limbs, x.Num, x.Den)
	}
}

// calls calls all functions and returns the memory of their results.
func (a argument) calls() *outcome {
	f, g := a.f, a.g
	made, _ := linear.Make(a.terms, a.c)
	y, _ := linear.Eval(f, a.x)
	i, _ := linear.Range(f, a.box)
	text, _, _ := linear.Parse(linear.Text(f))
	linear.Valid(f, a.v)
	linear.Equal(f, g)
	out := &outcome{}
	out.addForms(made, linear.Add(f, g), linear.Add(f, f), linear.Sub(f, g), linear.Sub(f, f), linear.Scale(f, a.c), linear.Substitute(f, a.v, g), linear.Substitute(f, a.v, f), text)
	out.addNumbers(linear.Coef(f, a.v), y, i.Lo, i.Hi)
	return out
}

// memory returns a text of all the memory of the arguments, with the spare capacity.
func (a argument) memory() string {
	numbers := append(slices.Clone(a.x[:cap(a.x)]), a.c, a.f.Const, a.g.Const)
	for _, i := range a.box[:cap(a.box)] {
		numbers = append(numbers, i.Lo, i.Hi)
	}
	terms := slices.Concat(a.f.Terms[:cap(a.f.Terms)], a.g.Terms[:cap(a.g.Terms)], a.terms[:cap(a.terms)])
	for _, t := range terms {
		numbers = append(numbers, t.Coef)
	}
	limbs := &outcome{}
	limbs.addNumbers(numbers...)
	return fmt.Sprint(terms, a.x[:cap(a.x)], a.box[:cap(a.box)], sample.Copies(limbs.limbs))
}

// spareForm returns a copy of a form whose slices have spare capacity (see spareTerms).
func spareForm(f api.Affine) api.Affine {
	return api.Affine{Terms: spareTerms(f.Terms), Const: sample.SpareRat(f.Const)}
}

// spareTerms returns a copy of terms whose slices have spare capacity that contains other terms and limbs.
func spareTerms(terms []api.Term) []api.Term {
	var out []api.Term
	for _, t := range terms {
		out = append(out, api.Term{Var: t.Var, Coef: sample.SpareRat(t.Coef)})
	}
	return append(out, term("7 1"), term("-8 2"))[:len(terms)]
}

// eachCall calls test for many arguments with spare capacity.
func eachCall(test func(a argument)) {
	list := forms()
	for i, f := range list {
		for k, g := range list {
			a := argument{f: spareForm(f), g: spareForm(g), terms: spareTerms(slices.Concat(f.Terms, g.Terms)), v: (i + k) % 7, c: sample.SpareRat(sample.Numbers("0", "1", "-1", "-2/3")[(i+k)%4])}
			for _, x := range points(7)[(i+k)%12] {
				a.x = append(a.x, sample.SpareRat(x))
				a.box = append(a.box, api.Interval{Lo: sample.SpareRat(x), Hi: sample.SpareRat(x)})
			}
			// A form may have six variables, so that one number of the point and one interval of the box are spare.
			a.x, a.box = a.x[:6], a.box[:6]
			slices.Reverse(a.terms)
			test(a)
		}
	}
}

// Arguments are not modified, including the spare capacity of slices (rule 5), and a second call returns the same (rule 6).
func TestArgumentsAndState(t *testing.T) {
	eachCall(func(a argument) {
		before := a.memory()
		first, second := a.calls(), a.calls()
		if fmt.Sprint(first) != fmt.Sprint(second) {
			t.Errorf("a second call for %s and %s returns something else", show(a.f), show(a.g))
		}
		if a.memory() != before {
			t.Errorf("an argument was modified: %s, %s", show(a.f), show(a.g))
		}
	})
}

// A result is new memory, which it shares neither with an argument nor with another result, and its slices share none (rule 7 of the language).
func TestResultsAreNewMemory(t *testing.T) {
	eachCall(func(a argument) {
		before := a.memory()
		results := a.calls()
		if sample.Shared(results.limbs) {
			t.Errorf("numbers of results share memory: %s, %s", show(a.f), show(a.g))
		}
		for i, terms := range results.terms {
			others := fmt.Sprint(results.terms[i+1:])
			clear(terms[:cap(terms)])
			if fmt.Sprint(results.terms[i+1:]) != others {
				t.Errorf("terms of results share memory: %s, %s", show(a.f), show(a.g))
			}
		}
		if a.memory() != before {
			t.Errorf("a result shares memory with an argument: %s, %s", show(a.f), show(a.g))
		}
	})
}
