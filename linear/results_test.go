package linear_test

import (
	"math"
	"slices"
	"testing"

	"relucert/api"
	"relucert/linear"
	"relucert/rational"
	"relucert/sample"
)

// The tests of this file, of text_test.go and of parse_test.go belong to P7.1: every function returns the specified result.

func TestExamples(t *testing.T) {
	f := form("5", "2 0", "-1/2 3")
	if s := linear.Text(f); s != "2*x0 - 1/2*x3 + 5" {
		t.Errorf("Text: %q", s)
	}
	if s := linear.Text(api.Affine{}); s != "0" {
		t.Errorf("Text of the form without terms: %q", s)
	}
	if s := linear.Text(form("0", "-1 1")); s != "-x1" {
		t.Errorf("Text of - x1: %q", s)
	}
	expect(t, "Substitute", linear.Substitute(form("0", "2 0", "1 1"), 0, form("1", "1 1")), form("2", "3 1"))
	expectRange(t, form("0", "1 0", "-2 1"), box("0 1", "-1 3"), "-6 3")
	expectSyntaxError(t, "2*x", 3)
}

func TestMake(t *testing.T) {
	for _, x := range []struct{ from, want api.Affine }{
		{form("0"), form("0")}, {form("-7/3"), form("-7/3")}, {form("1", "2 0"), form("1", "2 0")},
		{form("1", "3 2", "1 0", "-2 1"), form("1", "1 0", "-2 1", "3 2")}, {form("0", "1 5", "1 4", "1 3", "1 2", "1 0"), form("0", "1 0", "1 2", "1 3", "1 4", "1 5")},
		{form("0", "1/2 3", "1/3 3"), form("0", "5/6 3")}, {form("0", "1 1", "2 0", "3 1", "4 0", "5 1"), form("0", "6 0", "9 1")},
		{form("4", "1 1", "-1 1"), form("4")}, {form("0", "1/2 2", "1 0", "-1/3 2", "-1/6 2"), form("0", "1 0")}, {form("0", "1 0", "1 1", "-1 0"), form("0", "1 1")},
		{form("0", "0 0"), form("0")}, {form("2", "0 3", "5 1", "0 0"), form("2", "5 1")}, {form("0", "0 1", "3 1", "0 1"), form("0", "3 1")}, {form("0", "0 1", "0 1"), form("0")},
		{form("1", "1 9223372036854775807", "1 0"), form("1", "1 0", "1 9223372036854775807")},
	} {
		expectMade(t, x.from.Terms, x.from.Const, x.want)
	}
}

// expectMade checks the result of Make.
func expectMade(t *testing.T, terms []api.Term, c api.Rat, want api.Affine) {
	t.Helper()
	got, e := linear.Make(terms, c)
	expect(t, "Make of "+show(api.Affine{Terms: terms, Const: c}), got, want)
	if e != api.OK {
		t.Errorf("Make of %v and %v: error %d", terms, c, e)
	}
}

// The terms of a form in another order, in parts, and with numbers that are not canonical.
func TestMakeOfParts(t *testing.T) {
	half := sample.Number("1/2")
	for i, f := range forms() {
		reversed := slices.Clone(f.Terms)
		slices.Reverse(reversed)
		expectMade(t, reversed, f.Const, f)
		var halves []api.Term
		for k, term := range slices.Concat(f.Terms, reversed) {
			list := sample.Forms(rational.Mul(term.Coef, half))
			halves = append(halves, api.Term{Var: term.Var, Coef: list[(i+k)%len(list)]})
		}
		for _, c := range sample.Forms(f.Const) {
			expectMade(t, halves, c, f)
		}
	}
}

// Numbers that are not canonical, in each of their forms, for terms of their own and for sums, also of 0.
func TestMakeOfOtherNumbers(t *testing.T) {
	for _, x := range sample.Numbers("0", "1", "-1", "3/4", "-4294967297/6", "18446744073709551616") {
		for _, other := range sample.Forms(x) {
			want := built(x, []int{2}, func(int) api.Rat { return x })
			expectMade(t, []api.Term{{Var: 2, Coef: other}}, other, want)
			minus := other
			minus.Neg = !minus.Neg
			expectMade(t, []api.Term{{Var: 2, Coef: other}, {Var: 0, Coef: other}, {Var: 2, Coef: minus}}, x, built(x, []int{0}, func(int) api.Rat { return x }))
			expectMade(t, []api.Term{{Var: 1, Coef: other}, {Var: 1, Coef: other}}, x, built(x, []int{1}, func(int) api.Rat { return rational.Add(x, x) }))
		}
	}
}

func TestMakeErrors(t *testing.T) {
	for _, terms := range [][]api.Term{
		{term("1 -1")}, {term("0 -1")}, {term("1 0"), term("1 -1")}, {term("1 -9223372036854775808"), term("1 0")}, {term("2 3"), term("1 -2"), term("-1 -2"), term("1 1")}, {term("1 1"), {Var: -5, Coef: api.Rat{Neg: true, Den: api.Nat{0}}}},
	} {
		f, e := linear.Make(terms, sample.Number("7"))
		if e != api.ErrArg || !same(f, api.Affine{}) {
			t.Errorf("Make of %v: %s, error %d", terms, show(f), e)
		}
	}
}

func TestValid(t *testing.T) {
	for _, f := range forms() {
		next := 0 // the least number that is greater than all variables
		for _, v := range variables(f) {
			next = v + 1
		}
		for _, x := range []struct {
			vars int
			want bool
		}{{next, true}, {next + 1, true}, {math.MaxInt, true}, {next - 1, next == 0}, {0, next == 0}, {-1, next == 0}, {math.MinInt, next == 0}} {
			if got := linear.Valid(f, x.vars); got != x.want {
				t.Errorf("Valid of %s for %d variables: %v", show(f), x.vars, got)
			}
		}
	}
	last := form("0", "1 9223372036854775806")
	if !linear.Valid(last, math.MaxInt) || linear.Valid(last, math.MaxInt-1) {
		t.Error("Valid of the last variable")
	}
}

// Each of these forms breaks one condition.
func TestNotValid(t *testing.T) {
	for _, f := range []api.Affine{
		form("0", "1 1", "1 0"), form("0", "1 0", "1 2", "1 1"), form("0", "1 1", "1 1"), form("0", "1 0", "1 2", "-1 2"), form("0", "1 -1"), form("0", "1 -1", "1 0"), form("0", "1 0", "1 -1"), form("0", "1 -9223372036854775808"), form("0", "1 9223372036854775807"), form("0", "1 9223372036854775807", "1 0"),
		form("0", "0 0"), form("1", "1 0", "0 1"), form("1", "0 0", "1 1"),
	} {
		if linear.Valid(f, math.MaxInt) {
			t.Errorf("Valid of %s", show(f))
		}
	}
	for _, x := range sample.Numbers("0", "1", "-5", "3/4", "-4294967297/6") {
		for _, other := range sample.Forms(x) {
			constant, coefficient := form("0", "1 0", "1 1"), form("0", "1 0", "1 1")
			constant.Const, coefficient.Terms[1].Coef = other, other
			want := sample.SameRat(other, x)
			if linear.Valid(constant, 2) != want || linear.Valid(api.Affine{Const: other}, 2) != want || linear.Valid(coefficient, 2) != (want && len(x.Num) > 0) {
				t.Errorf("Valid of a form with the number %v", other)
			}
		}
	}
	empty := api.Affine{Terms: []api.Term{}, Const: api.Rat{Num: api.Nat{}, Den: api.Nat{}}}
	if !linear.Valid(empty, 0) {
		t.Error("Valid of a form with empty slices")
	}
}

func TestCoef(t *testing.T) {
	others := []int{math.MinInt, -2, -1, 0, 1, 2, 3, 4, 5, 6, 7, math.MaxInt}
	list := append(forms(), form("1", "2 0", "3 9223372036854775807"), form("0", "1 1", "2 3", "3 5", "4 7", "5 9", "6 11"))
	for _, f := range list {
		for _, v := range append(variables(f), others...) {
			expectNumber(t, "Coef of "+show(f), linear.Coef(f, v), coef(f, v))
		}
	}
}

func TestEval(t *testing.T) {
	for _, f := range forms() {
		list := variables(f)
		for _, x := range points(9) {
			least := 0
			if len(list) > 0 {
				least = list[len(list)-1] + 1
			}
			for length := range len(x) + 1 {
				y, e := linear.Eval(f, x[:length])
				if length < least {
					if e != api.ErrRange || !sample.SameRat(y, api.Rat{}) {
						t.Errorf("Eval of %s at %d numbers: %v, error %d", show(f), length, y, e)
					}
					continue
				}
				expectNumber(t, "Eval of "+show(f), y, value(f, x))
				if e != api.OK {
					t.Errorf("Eval of %s at %v: error %d", show(f), x, e)
				}
			}
		}
	}
	expectNumber(t, "Eval of a constant", eval(t, form("-2/3"), nil), sample.Number("-2/3"))
	expectNumber(t, "Eval", eval(t, form("1", "2 0", "-1/2 2"), sample.Numbers("3", "100", "-5")), sample.Number("19/2"))
}

func TestAddAndSub(t *testing.T) {
	for _, x := range []struct{ f, g, sum, difference api.Affine }{
		{form("0"), form("0"), form("0"), form("0")}, {form("1"), form("1/2"), form("3/2"), form("1/2")}, {form("1", "1 0"), form("2"), form("3", "1 0"), form("-1", "1 0")}, {form("2"), form("1", "1 0"), form("3", "1 0"), form("1", "-1 0")},
		{form("0", "1 0", "2 2"), form("0", "3 1", "4 3"), form("0", "1 0", "3 1", "2 2", "4 3"), form("0", "1 0", "-3 1", "2 2", "-4 3")},
		{form("0", "1 0", "2 2"), form("5", "1/2 0", "-2 2"), form("5", "3/2 0"), form("-5", "1/2 0", "4 2")},
		{form("1", "1 1", "1 2"), form("1", "1 1", "1 2"), form("2", "2 1", "2 2"), form("0")}, {form("1", "1 1", "1 2"), form("-1", "-1 1", "-1 2"), form("0"), form("2", "2 1", "2 2")},
		{form("0", "1 3"), form("0", "1 0", "1 1"), form("0", "1 0", "1 1", "1 3"), form("0", "-1 0", "-1 1", "1 3")}, {form("0", "1 9223372036854775807"), form("0", "1 0"), form("0", "1 0", "1 9223372036854775807"), form("0", "-1 0", "1 9223372036854775807")},
	} {
		expect(t, show(x.f)+" + "+show(x.g), linear.Add(x.f, x.g), x.sum)
		expect(t, show(x.g)+" + "+show(x.f), linear.Add(x.g, x.f), x.sum)
		expect(t, show(x.f)+" - "+show(x.g), linear.Sub(x.f, x.g), x.difference)
	}
	for _, f := range forms() {
		for _, g := range forms() {
			list := variables(f, g)
			sum := built(rational.Add(f.Const, g.Const), list, func(v int) api.Rat { return rational.Add(coef(f, v), coef(g, v)) })
			difference := built(rational.Sub(f.Const, g.Const), list, func(v int) api.Rat { return rational.Sub(coef(f, v), coef(g, v)) })
			expect(t, show(f)+" + "+show(g), linear.Add(f, g), sum)
			expect(t, show(f)+" - "+show(g), linear.Sub(f, g), difference)
		}
	}
}

func TestScale(t *testing.T) {
	for _, x := range []struct {
		f    api.Affine
		c    string
		want api.Affine
	}{
		{form("0"), "5", form("0")}, {form("3"), "-1/2", form("-3/2")}, {form("5", "2 0", "-1/2 3"), "0", form("0")}, {form("5", "2 0", "-1/2 3"), "1", form("5", "2 0", "-1/2 3")}, {form("5", "2 0", "-1/2 3"), "-1", form("-5", "-2 0", "1/2 3")},
		{form("5", "2 0", "-1/2 3"), "2", form("10", "4 0", "-1 3")}, {form("5", "2 0", "-1/2 3"), "-2/5", form("-2", "-4/5 0", "1/5 3")}, {form("0", "4294967296 1"), "-1/4294967296", form("0", "-1 1")},
	} {
		expect(t, x.c+" times "+show(x.f), linear.Scale(x.f, sample.Number(x.c)), x.want)
	}
	for _, f := range forms() {
		for _, c := range sample.Numbers("0", "1", "-1", "3", "-2/7", "5/4294967296", "-18446744073709551617") {
			want := built(rational.Mul(f.Const, c), variables(f), func(v int) api.Rat { return rational.Mul(coef(f, v), c) })
			expect(t, "a multiple of "+show(f), linear.Scale(f, c), want)
		}
	}
}

func TestSubstitute(t *testing.T) {
	for _, x := range []struct {
		f    api.Affine
		v    int
		g    api.Affine
		want api.Affine
	}{
		{form("1", "2 0", "3 2"), 0, form("5"), form("11", "3 2")}, {form("1", "2 0", "3 2"), 2, form("0"), form("1", "2 0")}, {form("1", "2 0", "3 2"), 1, form("5", "1 4"), form("1", "2 0", "3 2")}, {form("1", "2 0"), 3, form("5"), form("1", "2 0")}, {form("1", "2 0"), -1, form("5", "1 1"), form("1", "2 0")}, {form("7"), 0, form("5", "1 1"), form("7")},
		{form("1", "2 0"), 0, form("0", "1 0"), form("1", "2 0")}, {form("1", "2 0"), 0, form("3", "-1/2 0"), form("7", "-1 0")}, {form("1", "2 0", "1 1"), 0, form("-1/2", "1 0", "-1/2 1"), form("0", "2 0")}, {form("0", "1 0", "1 1"), 1, form("0", "-1 0", "1 1"), form("0", "1 1")},
		{form("-6", "2 0", "1 1"), 0, form("3", "-1/2 1"), form("0")}, {form("1", "2 0", "3 2", "4 4"), 2, form("-1", "-2/3 0", "1 1"), form("-2", "3 1", "4 4")}, {form("0", "1 1"), 1, form("2", "1 0", "1 5"), form("2", "1 0", "1 5")},
	} {
		expect(t, "Substitute in "+show(x.f)+" by "+show(x.g), linear.Substitute(x.f, x.v, x.g), x.want)
	}
	for _, f := range forms() {
		for _, g := range forms() {
			for _, v := range []int{math.MinInt, -1, 0, 1, 2, 3, 4, 5, 6, math.MaxInt} {
				c := coef(f, v)
				want := built(rational.Add(f.Const, rational.Mul(c, g.Const)), variables(f, g), func(w int) api.Rat {
					replaced := rational.Mul(c, coef(g, w))
					if w == v {
						return replaced
					}
					return rational.Add(coef(f, w), replaced)
				})
				expect(t, "Substitute in "+show(f)+" by "+show(g), linear.Substitute(f, v, g), want)
			}
		}
	}
}

// box returns the box of the texts of intervals: both ends, with a blank between them.
func box(texts ...string) []api.Interval {
	var out []api.Interval
	for _, text := range texts {
		out = append(out, span(text))
	}
	return out
}

// expectRange checks the result of Range.
func expectRange(t *testing.T, f api.Affine, box []api.Interval, want string) {
	t.Helper()
	got := interval(t, f, box)
	expectNumber(t, "the lower end of the range of "+show(f), got.Lo, span(want).Lo)
	expectNumber(t, "the upper end of the range of "+show(f), got.Hi, span(want).Hi)
}

func TestRange(t *testing.T) {
	for _, x := range []struct {
		f    api.Affine
		box  []api.Interval
		want string
	}{
		{form("0"), nil, "0 0"}, {form("-5/3"), nil, "-5/3 -5/3"}, {form("2"), box("0 1"), "2 2"}, {form("0", "1 0"), box("-1/2 3"), "-1/2 3"}, {form("0", "-1 0"), box("-1/2 3"), "-3 1/2"}, {form("1", "-2 0"), box("1 3"), "-5 -1"}, {form("1", "2 0"), box("-3 -1"), "-5 -1"},
		{form("1/2", "1 0", "-1 1"), box("0 1", "0 1"), "-1/2 3/2"}, {form("0", "3 1"), box("-100 100", "1/3 2/3", "-7 7"), "1 2"}, {form("1", "2 0", "-3 1", "1/2 3"), box("1 1", "-2 -2", "0 9", "4 4"), "11 11"}, {form("0", "2 0", "-3 1"), box("1 1", "-2 4"), "-10 8"}, {form("0", "1 0", "1 1"), box("0 0", "0 0"), "0 0"},
		{form("0", "1 0", "-1 1"), box("-4294967296 4294967296", "-1 18446744073709551616"), "-18446744078004518912 4294967297"},
	} {
		expectRange(t, x.f, x.box, x.want)
	}
}

// A box that is too short is an error, however many variables lie in it.
func TestShortBoxes(t *testing.T) {
	long := box("0 1", "2 3", "-1 1", "1/2 1/2", "0 0", "-5 5", "1 9")
	for _, f := range forms() {
		for length := range len(long) + 1 {
			got, e := linear.Range(f, long[:length])
			want := api.OK
			if slices.ContainsFunc(f.Terms, func(t api.Term) bool { return t.Var >= length }) {
				want = api.ErrRange
				if !sample.SameRat(got.Lo, api.Rat{}) || !sample.SameRat(got.Hi, api.Rat{}) {
					t.Errorf("Range of %s in a box of %d intervals: %v", show(f), length, got)
				}
			}
			if e != want {
				t.Errorf("Range of %s in a box of %d intervals: error %d, want %d", show(f), length, e, want)
			}
		}
	}
}

// Equal forms are the same terms and constants, in whatever memory they are.
func TestEqual(t *testing.T) {
	list := append(forms(), form("0", "1 0", "1 1"), form("0", "1 0", "1 3"), form("0", "1 0", "-1 1"), form("0", "1 0", "1/2 1"), form("1/2", "1 0", "1 1"), form("-1/2", "1 0", "1 1"), form("1/3", "1 0", "1 1"), form("0", "1 1"), form("0", "1 0", "1 1", "1 3"))
	for _, f := range list {
		for _, g := range list {
			if got := linear.Equal(f, g); got != same(f, g) {
				t.Errorf("Equal of %s and %s: %v", show(f), show(g), got)
			}
		}
		if !linear.Equal(f, spareForm(f)) || !linear.Equal(spareForm(f), f) {
			t.Errorf("Equal of %s and its copy", show(f))
		}
	}
	empty := api.Affine{Terms: []api.Term{}, Const: api.Rat{Num: api.Nat{}, Den: api.Nat{}}}
	if !linear.Equal(api.Affine{}, empty) || !linear.Equal(empty, api.Affine{}) {
		t.Error("Equal of forms with empty slices and without slices")
	}
}
