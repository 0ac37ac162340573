package interval_test

import (
	"math"
	"slices"
	"testing"

	"relucert/api"
	"relucert/dyadic"
	"relucert/interval"
	"relucert/rational"
	"relucert/sample"
)

// P6.2, for operations on numbers.
func TestEnclosure(t *testing.T) {
	list := pairs(many())
	for _, o := range operations() {
		for _, a := range list {
			for _, b := range o.seconds(list) {
				out := o.intervals(a.Interval, b.Interval)
				for _, result := range results(o, a.Interval, b.Interval) {
					if !between(result, out) || !interval.Contains(out, result) {
						t.Errorf("%s of %s and %s: %s does not contain %v", o.name, show(a.Interval), show(b.Interval), show(out), result)
					}
				}
			}
		}
	}
}

// P6.2, for the operations on sets: a number is in the meet exactly if it is in both intervals, and in the join if it is in one.
func TestEnclosureOfSets(t *testing.T) {
	for _, a := range pairs(few()) {
		for _, b := range pairs(few()) {
			join := interval.Join(a.Interval, b.Interval)
			both, e := interval.Meet(a.Interval, b.Interval)
			for _, x := range slices.Concat(points(a.Interval), points(b.Interval)) {
				if !between(x, join) {
					t.Errorf("Join of %s and %s: %s does not contain %v", show(a.Interval), show(b.Interval), show(join), x)
				}
				want := between(x, a.Interval) && between(x, b.Interval)
				if got := e == api.OK && between(x, both); got != want {
					t.Errorf("Meet of %s and %s: %s contains %v: %v", show(a.Interval), show(b.Interval), show(both), x, got)
				}
			}
		}
	}
}

// P6.2, for Round: it contains the numbers and the numbers to which they are rounded.
func TestEnclosureOfRound(t *testing.T) {
	for _, i := range pairs(many()) {
		for _, bits := range []int{1, 2, 4, 31, 64, 300} {
			rounded := round(t, i.Interval, bits)
			for _, x := range points(i.Interval) {
				lo, _ := dyadic.Down(x, bits)
				hi, _ := dyadic.Up(x, bits)
				for _, y := range []api.Rat{x, dyadic.Rat(lo), dyadic.Rat(hi)} {
					if !between(y, rounded) {
						t.Errorf("Round of %s to %d bits: %s does not contain %v", show(i.Interval), bits, show(rounded), y)
					}
				}
			}
		}
	}
}

// parts returns the intervals of a list that lie in another one.
func parts(list []pair, of pair) []pair {
	return slices.DeleteFunc(slices.Clone(list), func(i pair) bool { return i.lo < of.lo || i.hi > of.hi })
}

// P6.3, for operations on numbers.
func TestInclusion(t *testing.T) {
	list := pairs(few())
	for _, o := range operations() {
		for _, a := range list {
			for _, b := range o.seconds(list) {
				out := o.intervals(a.Interval, b.Interval)
				for _, x := range parts(list, a) {
					for _, y := range o.seconds(parts(list, b)) {
						expectInside(t, o.name, o.intervals(x.Interval, y.Interval), out)
					}
				}
			}
		}
	}
}

// expectInside checks that the result of an operation lies in another result of it.
func expectInside(t *testing.T, what string, got, previous api.Interval) {
	t.Helper()
	if !inside(got, previous) || !interval.Within(got, previous) {
		t.Errorf("%s: %s does not lie in %s", what, show(got), show(previous))
	}
}

// P6.3, for the operations on sets. There is nothing in a part of nothing.
func TestInclusionOfSets(t *testing.T) {
	list := pairs(sample.Numbers("-1", "-1/3", "0", "2", "5/2"))
	for _, a := range list {
		for _, b := range list {
			join := interval.Join(a.Interval, b.Interval)
			both, none := interval.Meet(a.Interval, b.Interval)
			for _, x := range parts(list, a) {
				for _, y := range parts(list, b) {
					expectInside(t, "Join", interval.Join(x.Interval, y.Interval), join)
					part, e := interval.Meet(x.Interval, y.Interval)
					if e == api.OK {
						expectInside(t, "Meet", part, both)
					}
					if none == api.ErrNone && e != api.ErrNone {
						t.Errorf("Meet of %s and %s: error %d", show(x.Interval), show(y.Interval), e)
					}
				}
			}
		}
	}
}

// P6.3, for Round and all its numbers of bits.
func TestInclusionOfRound(t *testing.T) {
	list := pairs(many())
	for bits := 1; bits <= 4096; bits = bits*3/2 + 1 {
		for _, i := range list {
			rounded := round(t, i.Interval, bits)
			for _, x := range parts(list, i) {
				expectInside(t, "Round", round(t, x.Interval, bits), rounded)
			}
		}
	}
}

// P6.4, for operations on numbers: a number of the intervals has the end as its result.
func TestTightness(t *testing.T) {
	list := pairs(many())
	for _, o := range operations() {
		for _, a := range list {
			for _, b := range o.seconds(list) {
				out := o.intervals(a.Interval, b.Interval)
				ends := results(o, a.Interval, b.Interval)
				for _, end := range []api.Rat{out.Lo, out.Hi} {
					if !slices.ContainsFunc(ends, func(x api.Rat) bool { return sample.SameRat(x, end) }) {
						t.Errorf("%s of %s and %s: no number has the result %v", o.name, show(a.Interval), show(b.Interval), end)
					}
				}
			}
		}
	}
}

// P6.4, for the other operations: the ends of a join are in one of the intervals, those of a meet are in both, and those of a rounded interval are rounded ends.
func TestTightnessOfSets(t *testing.T) {
	list := pairs(many())
	for _, a := range list {
		for _, b := range list {
			join := interval.Join(a.Interval, b.Interval)
			both, e := interval.Meet(a.Interval, b.Interval)
			for _, end := range []api.Rat{join.Lo, join.Hi} {
				if !between(end, a.Interval) && !between(end, b.Interval) {
					t.Errorf("Join of %s and %s: %s", show(a.Interval), show(b.Interval), show(join))
				}
			}
			for _, end := range []api.Rat{both.Lo, both.Hi} {
				if e == api.OK && !(between(end, a.Interval) && between(end, b.Interval)) {
					t.Errorf("Meet of %s and %s: %s", show(a.Interval), show(b.Interval), show(both))
				}
			}
		}
		exact := round(t, a.Interval, 4096)
		if rounded := round(t, exact, 4096); !same(rounded, exact) {
			t.Errorf("Round of %s: %s", show(exact), show(rounded))
		}
	}
}

// P1: the calls terminate for long numbers, with the specified results.
func TestLongNumbers(t *testing.T) {
	r := sample.Random(88172645463325252)
	var list []api.Rat
	for i := range 4 {
		list = append(list, rational.Canon(api.Rat{Neg: i%2 == 0, Num: r.Nat(30 + 7*i), Den: r.Nat(40 - 11*i)}))
	}
	slices.SortFunc(list, rational.Cmp)
	for _, o := range operations() {
		for _, a := range pairs(list) {
			for _, b := range o.seconds(pairs(list)) {
				expect(t, o.name, o.intervals(a.Interval, b.Interval), hull(results(o, a.Interval, b.Interval)))
			}
		}
	}
}

// P1: no call ends in a panic, for numbers and intervals of any contents. (Nothing else is promised for intervals that are not valid.)
func TestAnyContents(t *testing.T) {
	numbers := []api.Rat{
		{}, {Neg: true}, {Num: make(api.Nat, 5), Den: make(api.Nat, 9)}, {Neg: true, Den: api.Nat{3}}, {Num: api.Nat{0, 0, 6, 0}, Den: api.Nat{0, 4}}, {Neg: true, Num: api.Nat{7}, Den: api.Nat{7, 0}},
		{Num: append(make(api.Nat, 300), 1)}, {Num: api.Nat{1}, Den: append(make(api.Nat, 300), 1)},
	}
	for i, lo := range numbers {
		for k, hi := range numbers {
			a := api.Interval{Lo: lo, Hi: hi}
			b := api.Interval{Lo: numbers[(i+3)%len(numbers)], Hi: numbers[(k+1)%len(numbers)]}
			for _, bits := range []int{math.MinInt, 0, 1, 4096, math.MaxInt} {
				interval.Round(a, bits)
			}
			calls(a, b, lo)
			if made, e := interval.Make(lo, hi); e == api.OK && !interval.Valid(made) {
				t.Errorf("Make of numbers %d and %d returns an interval that is not valid", i, k)
			}
		}
	}
}
