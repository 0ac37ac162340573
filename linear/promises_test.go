package linear_test

import (
	"math"
	"slices"
	"strconv"
	"strings"
	"testing"

	"relucert/api"
	"relucert/linear"
	"relucert/rational"
	"relucert/sample"
)

// P7.2
func TestValues(t *testing.T) {
	list := forms()
	for i, f := range list {
		for _, g := range list {
			for k, x := range points(6) {
				a, b := eval(t, f, x), eval(t, g, x)
				expectNumber(t, "the value of a sum", eval(t, linear.Add(f, g), x), rational.Add(a, b))
				expectNumber(t, "the value of a difference", eval(t, linear.Sub(f, g), x), rational.Sub(a, b))
				c := x[(i+k)%len(x)]
				expectNumber(t, "the value of a multiple", eval(t, linear.Scale(f, c), x), rational.Mul(a, c))
				v := (i + k) % len(x)
				replaced := slices.Clone(x)
				replaced[v] = b
				expectNumber(t, "the value of a substitution", eval(t, linear.Substitute(f, v, g), x), eval(t, f, replaced))
			}
		}
	}
}

// P7.2, for the forms that Make builds of terms in any order.
func TestValuesOfSums(t *testing.T) {
	r := sample.Random(362436069)
	for i := range 200 {
		f := api.Affine{Const: randomNumber(&r, i%3)}
		for range r.Below(12) {
			f.Terms = append(f.Terms, api.Term{Var: r.Below(5), Coef: randomNumber(&r, i%3)})
		}
		made, _ := linear.Make(f.Terms, f.Const)
		for _, x := range points(5) {
			expectNumber(t, "the value of a form that is made", eval(t, made, x), value(f, x))
		}
	}
}

// span returns the interval of the text of its ends, with a blank between them.
func span(text string) api.Interval {
	lo, hi, _ := strings.Cut(text, " ")
	return api.Interval{Lo: sample.Number(lo), Hi: sample.Number(hi)}
}

// between returns a number of an interval: the lower end if part is 0, and the upper end if it is 1.
func between(i api.Interval, part api.Rat) api.Rat {
	return rational.Add(i.Lo, rational.Mul(part, rational.Sub(i.Hi, i.Lo)))
}

// corners returns all points of a box whose coordinates are ends of its intervals.
func corners(box []api.Interval) [][]api.Rat {
	out := [][]api.Rat{nil}
	for _, i := range box {
		var longer [][]api.Rat
		for _, x := range out {
			longer = append(longer, append(slices.Clone(x), i.Lo), append(slices.Clone(x), i.Hi))
		}
		out = longer
	}
	return out
}

// P7.3: at the ends of a range, the coordinates are ends of intervals.
func TestRanges(t *testing.T) {
	for _, box := range [][]api.Interval{
		box("0 1", "-1 1", "-1/2 2/3", "2 5", "-9 -3", "7/3 7/3"), box("-3 0", "0 0", "-4294967297 1/18446744073709551616", "-1 -1", "0 7", "-7/2 22/7"), box("1 1", "-2/3 -2/3", "0 0", "4294967296 4294967296", "5 5", "-1 -1"),
	} {
		for _, f := range forms() {
			values := []api.Rat{}
			for _, x := range corners(box) {
				values = append(values, value(f, x))
			}
			out := interval(t, f, box)
			expectNumber(t, "the lower end of the range of "+show(f), out.Lo, slices.MinFunc(values, rational.Cmp))
			expectNumber(t, "the upper end of the range of "+show(f), out.Hi, slices.MaxFunc(values, rational.Cmp))
			expectInside(t, f, box, out)
		}
	}
}

// expectInside checks that the values at points of a box lie in an interval.
func expectInside(t *testing.T, f api.Affine, box []api.Interval, out api.Interval) {
	t.Helper()
	parts := sample.Numbers("0", "1/7", "1/2", "1", "99/100")
	for i := range 40 {
		var x []api.Rat
		for v, side := range box {
			x = append(x, between(side, parts[(i*(v+1)+v)%len(parts)]))
		}
		if y := value(f, x); rational.Cmp(y, out.Lo) < 0 || rational.Cmp(y, out.Hi) > 0 {
			t.Errorf("the value of %s at %v is outside of its range", show(f), x)
		}
	}
}

// P7.4
func TestRoundTrip(t *testing.T) {
	r := sample.Random(521288629)
	list := append(forms(), form("0", "1 999999999"), form("-7", "1/3 0", "-1 100000000", "1 999999999"))
	for i := range 300 {
		list = append(list, randomForm(&r, 12, i%20))
	}
	for _, f := range list {
		expectParsed(t, linear.Text(f), f)
	}
	most, next := strings.Repeat("9", 200), "7"+strings.Repeat("0", 199)
	for _, f := range []api.Affine{form(most), form("-" + next + "/" + most), form(most+"/"+next, "-"+most+"/"+next+" 999999999"), form("0", "-"+most+" 0", most+"/"+next+" 1")} {
		expectParsed(t, linear.Text(f), f)
	}
}

// P7.4: beyond its limits, the text of a form is not one that can be parsed.
func TestNoRoundTrip(t *testing.T) {
	long := "1" + strings.Repeat("0", 200)
	for _, x := range []struct {
		f      api.Affine
		offset int
	}{
		{form(long), 200}, {form("-" + long), 201}, {form("1/" + long), 202}, {form("-3/"+long, "1 0"), 207}, {form("0", "1 0", long+" 1"), 205}, {form("0", "1 1000000000"), 10}, {form("1", "-2/3 1000000000"), 15},
	} {
		expectSyntaxError(t, linear.Text(x.f), x.offset)
	}
}

// P1: the calls terminate for many terms, whose numbers have many denominators.
func TestManyTerms(t *testing.T) {
	const count = 1500
	var terms []api.Term
	for i := range count {
		terms = append(terms, api.Term{Var: i * 7 % count, Coef: api.Rat{Neg: i%2 == 0, Num: api.Nat{uint32(i + 1)}, Den: api.Nat{uint32(i%900 + 1)}}})
	}
	f, e := linear.Make(terms, sample.Number("1/3"))
	if e != api.OK || len(f.Terms) != count || !linear.Valid(f, count) {
		t.Fatalf("Make of %d terms: %d terms, error %d", count, len(f.Terms), e)
	}
	expectParsed(t, linear.Text(f), f)
	none := api.Affine{}
	expect(t, "a difference of many terms", linear.Sub(linear.Add(f, f), linear.Scale(f, sample.Number("2"))), none)
	var ones []api.Rat
	var sum api.Rat
	for _, term := range f.Terms {
		ones = append(ones, rational.Of(1))
		sum = rational.Add(sum, term.Coef)
	}
	expectNumber(t, "the value of many terms", eval(t, f, ones), rational.Add(sum, f.Const))
	for i := range terms {
		terms[i].Var = 3
	}
	made, _ := linear.Make(terms, f.Const)
	expect(t, "the sum of many terms", made, api.Affine{Terms: []api.Term{{Var: 3, Coef: sum}}, Const: f.Const})
}

// P1: the calls terminate for long texts, correct ones and others.
func TestLongTexts(t *testing.T) {
	const length = 1 << 20
	for _, x := range []struct {
		text   string
		offset int
	}{{" ", length}, {"7", 200}, {"0", 1}, {"-", 1}, {"x", 1}, {"1+", 2 * length}, {"1 ", 2}} {
		expectSyntaxError(t, strings.Repeat(x.text, length), x.offset)
	}
	blanks := strings.Repeat(" ", length)
	expectParsed(t, blanks+"1"+blanks+"/"+blanks+"2"+blanks, form("1/2"))
	expectParsed(t, strings.Repeat("x3 - x3 + 1/7*x1 + ", length/64)+"1", built(rational.Of(1), []int{1}, func(int) api.Rat {
		x, _ := rational.Frac(length/64, 7)
		return x
	}))
	var fractions []string
	for i := range 300 {
		fractions = append(fractions, "1/"+digits(190)+strconv.Itoa(1000+i))
	}
	parsed(t, strings.Join(fractions, " - "))
}

// P1: no call ends in a panic, for forms, boxes and points of any contents. (Nothing else is promised for those that are not canonical.)
func TestAnyContents(t *testing.T) {
	numbers := []api.Rat{{}, {Neg: true}, {Num: make(api.Nat, 5), Den: make(api.Nat, 9)}, {Neg: true, Num: api.Nat{6, 0}, Den: api.Nat{4}}, {Num: api.Nat{0, 7}}}
	variables := []int{math.MinInt, -1, 0, 1, 2, math.MaxInt}
	list := []api.Affine{{}}
	r := sample.Random(2463534242)
	for i := range 60 {
		f := api.Affine{Const: numbers[i%len(numbers)]}
		for range r.Below(7) {
			f.Terms = append(f.Terms, api.Term{Var: variables[r.Below(len(variables))], Coef: numbers[r.Below(len(numbers))]})
		}
		list = append(list, f)
	}
	for i, f := range list {
		for _, g := range list {
			c := numbers[i%len(numbers)]
			for _, v := range variables {
				argument{f: f, g: g, terms: f.Terms, v: v, x: numbers, box: []api.Interval{{Lo: c}, {Hi: c}, {}}, c: c}.calls()
			}
		}
		made, e := linear.Make(f.Terms, f.Const)
		if negative := slices.ContainsFunc(f.Terms, func(t api.Term) bool { return t.Var < 0 }); negative != (e == api.ErrArg) || !canonical(made) {
			t.Errorf("Make of %v: %v, error %d", f, made, e)
		}
	}
}
