package linear_test

import (
	"maps"
	"slices"
	"strconv"
	"strings"
	"testing"

	"relucert/api"
	"relucert/decimal"
	"relucert/linear"
	"relucert/rational"
	"relucert/sample"
)

// term returns the term of a text: its coefficient, a blank and its variable.
func term(text string) api.Term {
	coef, variable, _ := strings.Cut(text, " ")
	v, e := strconv.Atoi(variable)
	if e != nil {
		panic(text)
	}
	return api.Term{Var: v, Coef: sample.Number(coef)}
}

// form returns the form of the texts of its constant and its terms, which stay as they are.
func form(constant string, terms ...string) api.Affine {
	f := api.Affine{Const: sample.Number(constant)}
	for _, text := range terms {
		f.Terms = append(f.Terms, term(text))
	}
	return f
}

// show returns a text of a form, for messages.
func show(f api.Affine) string {
	var out strings.Builder
	for _, t := range f.Terms {
		out.WriteString(decimal.Text(t.Coef) + " x" + strconv.Itoa(t.Var) + ", ")
	}
	return "(" + out.String() + decimal.Text(f.Const) + ")"
}

// forms returns canonical forms: without terms, with few of them that overlap, and with long numbers.
func forms() []api.Affine {
	list := []api.Affine{
		form("0"), form("1"), form("-1/3"), form("4294967296"),
		form("0", "1 0"), form("0", "-1 0"), form("7/2", "-1 1"), form("0", "2/3 2"), form("-1", "-5 5"),
		form("5", "2 0", "-1/2 3"), form("-5", "-2 0", "1/2 3"), form("1/6", "2 0", "1/2 3"), form("0", "-2 0", "-1/2 3"),
		form("0", "1 0", "1 1", "1 2"), form("-1/2", "1 1", "-1 2", "1 4"), form("0", "-1 0", "-1 1", "3/7 5"),
		form("-18446744073709551617/3", "4294967295 0", "-1/4294967296 1", "18446744073709551616 3", "-99999999999999999999/7 4"),
		form("18446744073709551617/3", "-4294967295 0", "1/4294967296 1", "-18446744073709551615 3", "2/7 5"),
	}
	r := sample.Random(88172645463325252)
	for i := range 8 {
		list = append(list, randomForm(&r, 6, i%3))
	}
	return list
}

// randomForm returns a canonical form with some variables less than vars. Its numbers have so many limbs, or are digits.
func randomForm(r *sample.Random, vars, limbs int) api.Affine {
	f := api.Affine{Const: randomNumber(r, limbs)}
	for v := range vars {
		coef := randomNumber(r, limbs)
		if len(coef.Num) > 0 && r.Below(2) == 0 {
			f.Terms = append(f.Terms, api.Term{Var: v, Coef: coef})
		}
	}
	return f
}

// randomNumber returns a canonical number.
func randomNumber(r *sample.Random, limbs int) api.Rat {
	neg := r.Below(2) == 0
	if limbs == 0 {
		return rational.Canon(api.Rat{Neg: neg, Num: api.Nat{uint32(r.Below(7))}, Den: api.Nat{uint32(r.Below(4))}})
	}
	return rational.Canon(api.Rat{Neg: neg, Num: r.Nat(limbs), Den: r.Nat(r.Below(limbs + 1))})
}

// same reports whether two forms are the same terms and constants, limb for limb.
func same(f, g api.Affine) bool {
	terms := slices.EqualFunc(f.Terms, g.Terms, func(a, b api.Term) bool { return a.Var == b.Var && sample.SameRat(a.Coef, b.Coef) })
	return terms && sample.SameRat(f.Const, g.Const)
}

// canonical reports whether a form is canonical, by the definition.
func canonical(f api.Affine) bool {
	for i, t := range f.Terms {
		if t.Var < 0 || i > 0 && f.Terms[i-1].Var >= t.Var || rational.Sign(t.Coef) == 0 || !rational.Valid(t.Coef) {
			return false
		}
	}
	return rational.Valid(f.Const)
}

// expect checks that a result is a form, and that it is canonical.
func expect(t *testing.T, what string, got, want api.Affine) {
	t.Helper()
	if !same(got, want) {
		t.Errorf("%s: got %s, want %s", what, show(got), show(want))
	}
	if !canonical(got) {
		t.Errorf("%s: %v is not canonical", what, got)
	}
}

// expectNumber checks that a result without an error is a number in its canonical form.
func expectNumber(t *testing.T, what string, got, want api.Rat) {
	t.Helper()
	if !sample.SameRat(got, want) || !rational.Valid(got) {
		t.Errorf("%s: got %v, want %v", what, got, want)
	}
}

// coef returns the coefficient of a variable, by the definition: the sum of those of its terms.
func coef(f api.Affine, v int) api.Rat {
	var out api.Rat
	for _, t := range f.Terms {
		if t.Var == v {
			out = rational.Add(out, t.Coef)
		}
	}
	return out
}

// variables returns the variables of forms, each of them once, in increasing order.
func variables(list ...api.Affine) []int {
	set := map[int]bool{}
	for _, f := range list {
		for _, t := range f.Terms {
			set[t.Var] = true
		}
	}
	return slices.Sorted(maps.Keys(set))
}

// built returns the canonical form with a constant and with a coefficient for each variable of a list in increasing order.
func built(constant api.Rat, list []int, coefs func(v int) api.Rat) api.Affine {
	out := api.Affine{Const: constant}
	for _, v := range list {
		if c := coefs(v); rational.Sign(c) != 0 {
			out.Terms = append(out.Terms, api.Term{Var: v, Coef: c})
		}
	}
	return out
}

// value returns the value of a form at a point, by the definition.
func value(f api.Affine, x []api.Rat) api.Rat {
	out := f.Const
	for _, t := range f.Terms {
		out = rational.Add(out, rational.Mul(t.Coef, x[t.Var]))
	}
	return out
}

// points returns points with so many coordinates, of both signs and with 0.
func points(vars int) [][]api.Rat {
	numbers := sample.Numbers("0", "1", "-1", "2/3", "-7/2", "4294967297", "-1/18446744073709551616", "3")
	var out [][]api.Rat
	for i := range 12 {
		var x []api.Rat
		for v := range vars {
			x = append(x, numbers[(i*(v+1)+v/2)%len(numbers)])
		}
		out = append(out, x)
	}
	return out
}

// eval, interval and parsed are the functions for arguments without an error.
func eval(t *testing.T, f api.Affine, x []api.Rat) api.Rat {
	t.Helper()
	y, e := linear.Eval(f, x)
	if e != api.OK {
		t.Fatalf("Eval of %s at %v: error %d", show(f), x, e)
	}
	return y
}

func interval(t *testing.T, f api.Affine, box []api.Interval) api.Interval {
	t.Helper()
	i, e := linear.Range(f, box)
	if e != api.OK {
		t.Fatalf("Range of %s: error %d", show(f), e)
	}
	return i
}

func parsed(t *testing.T, s string) api.Affine {
	t.Helper()
	f, offset, e := linear.Parse(s)
	if offset != 0 || e != api.OK {
		t.Fatalf("Parse of %q: offset %d, error %d", short(s), offset, e)
	}
	return f
}

// short returns a text, or its ends if it is long.
func short(s string) string {
	if len(s) <= 80 {
		return s
	}
	return s[:40] + "..." + s[len(s)-40:]
}
