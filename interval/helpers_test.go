package interval_test

import (
	"slices"
	"strings"
	"testing"

	"relucert/api"
	"relucert/decimal"
	"relucert/interval"
	"relucert/rational"
	"relucert/sample"
)

// span returns the interval of the text of its ends, with a blank between them.
func span(text string) api.Interval {
	lo, hi, _ := strings.Cut(text, " ")
	return api.Interval{Lo: sample.Number(lo), Hi: sample.Number(hi)}
}

// show returns a text of an interval, for messages.
func show(i api.Interval) string {
	return "[" + decimal.Text(i.Lo) + ", " + decimal.Text(i.Hi) + "]"
}

// few and many return canonical numbers of both signs, in increasing order.
func few() []api.Rat {
	return sample.Numbers("-7/2", "-1", "-1/3", "0", "2/5", "1", "3")
}

func many() []api.Rat {
	return sample.Numbers("-18446744073709551617/3", "-4294967296", "-7/2", "-1", "-1/3", "0", "1/4294967297", "2/5", "1", "4294967297/4294967296", "3", "99999999999999999999")
}

// pair is an interval whose ends have these positions in a list.
type pair struct {
	api.Interval
	lo, hi int
}

// pairs returns all intervals whose ends are numbers of a list in increasing order.
func pairs(list []api.Rat) []pair {
	var out []pair
	for lo := range list {
		for hi := lo; hi < len(list); hi++ {
			out = append(out, pair{api.Interval{Lo: list[lo], Hi: list[hi]}, lo, hi})
		}
	}
	return out
}

// points returns numbers of an interval: the ends, some between them, and 0 if it is one of them.
func points(i api.Interval) []api.Rat {
	width := rational.Sub(i.Hi, i.Lo)
	out := []api.Rat{i.Lo, i.Hi}
	for _, part := range sample.Numbers("1/7", "1/2", "4/5") {
		out = append(out, rational.Add(i.Lo, rational.Mul(width, part)))
	}
	if rational.Sign(i.Lo)*rational.Sign(i.Hi) < 0 {
		out = append(out, api.Rat{})
	}
	return out
}

// hull returns the least interval that contains numbers.
func hull(list []api.Rat) api.Interval {
	return api.Interval{Lo: slices.MinFunc(list, rational.Cmp), Hi: slices.MaxFunc(list, rational.Cmp)}
}

// between reports whether a number lies from the lower to the upper end of an interval, by the definition.
func between(x api.Rat, i api.Interval) bool {
	return rational.Cmp(i.Lo, x) <= 0 && rational.Cmp(x, i.Hi) <= 0
}

// inside reports whether an interval lies in another one, by the definition.
func inside(a, b api.Interval) bool {
	return rational.Cmp(b.Lo, a.Lo) <= 0 && rational.Cmp(a.Hi, b.Hi) <= 0
}

// same reports whether two intervals are the same limbs with the same signs.
func same(a, b api.Interval) bool {
	return sample.SameRat(a.Lo, b.Lo) && sample.SameRat(a.Hi, b.Hi)
}

// expect checks that a result without an error is an interval with canonical ends, and that it is valid.
func expect(t *testing.T, what string, got, want api.Interval) {
	t.Helper()
	if !same(got, want) {
		t.Errorf("%s: got %s, want %s", what, show(got), show(want))
	}
	if !interval.Valid(got) || !rational.Valid(got.Lo) || !rational.Valid(got.Hi) {
		t.Errorf("%s: %v is not valid", what, got)
	}
}

// expectError checks that there is an error, and no interval with it.
func expectError(t *testing.T, what string, got api.Interval, e, want api.Errno) {
	t.Helper()
	if e != want || !same(got, api.Interval{}) {
		t.Errorf("%s: got %s, error %d, want error %d", what, show(got), e, want)
	}
}

// meet and round are the functions for arguments without an error.
func meet(t *testing.T, a, b api.Interval) api.Interval {
	t.Helper()
	i, e := interval.Meet(a, b)
	if e != api.OK {
		t.Fatalf("Meet of %s and %s: error %d", show(a), show(b), e)
	}
	return i
}

func round(t *testing.T, i api.Interval, bits int) api.Interval {
	t.Helper()
	rounded, e := interval.Round(i, bits)
	if e != api.OK {
		t.Fatalf("Round of %s to %d bits: error %d", show(i), bits, e)
	}
	return rounded
}

// operation is an operation on intervals with the one on numbers that belongs to it. A unary one takes no account of its second argument.
type operation struct {
	name      string
	unary     bool
	intervals func(a, b api.Interval) api.Interval
	numbers   func(x, y api.Rat) api.Rat
}

// unary returns an operation on one interval.
func unary(name string, intervals func(api.Interval) api.Interval, numbers func(api.Rat) api.Rat) operation {
	return operation{
		name:      name,
		unary:     true,
		intervals: func(a, _ api.Interval) api.Interval { return intervals(a) },
		numbers:   func(x, _ api.Rat) api.Rat { return numbers(x) },
	}
}

// operations returns all operations on numbers, with multiples by numbers of both signs and by 0.
func operations() []operation {
	relu := func(x api.Rat) api.Rat {
		if x.Neg {
			return api.Rat{}
		}
		return x
	}
	list := []operation{
		{name: "Add", intervals: interval.Add, numbers: rational.Add},
		{name: "Mul", intervals: interval.Mul, numbers: rational.Mul},
		unary("Neg", interval.Neg, rational.Neg),
		unary("Relu", interval.Relu, relu),
	}
	for _, c := range sample.Numbers("0", "1", "-1", "3/2", "-5/7", "4294967296", "-1/18446744073709551615") {
		scale := func(i api.Interval) api.Interval { return interval.Scale(i, c) }
		list = append(list, unary("Scale by "+decimal.Text(c), scale, func(x api.Rat) api.Rat { return rational.Mul(x, c) }))
	}
	return list
}

// seconds returns the second arguments of an operation: those that are given, and a single one if it takes no account of them.
func (o operation) seconds(list []pair) []pair {
	if o.unary {
		return list[:1]
	}
	return list
}
