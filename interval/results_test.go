package interval_test

import (
	"math"
	"slices"
	"testing"

	"relucert/api"
	"relucert/dyadic"
	"relucert/interval"
	"relucert/rational"
	"relucert/sample"
)

// The tests of this file belong to P6.1: every function returns the specified result.

func TestExamples(t *testing.T) {
	expect(t, "Mul", interval.Mul(span("1 2"), span("-3 1")), span("-6 2"))
	expect(t, "Relu", interval.Relu(span("-1 2")), span("0 2"))
	expect(t, "Relu", interval.Relu(span("-2 -1")), span("0 0"))
	expect(t, "Meet", meet(t, span("0 1"), span("1 2")), span("1 1"))
	none, e := interval.Meet(span("0 1"), span("2 3"))
	expectError(t, "Meet", none, e, api.ErrNone)
	expect(t, "Round", round(t, span("1/3 1/3"), 2), span("1/4 3/8"))
}

func TestMake(t *testing.T) {
	list := many()
	for i, x := range list {
		for k, y := range list {
			for _, lo := range sample.Forms(x) {
				for _, hi := range sample.Forms(y) {
					testMake(t, lo, hi, i <= k, api.Interval{Lo: x, Hi: y})
				}
			}
		}
	}
}

// testMake checks the result of Make for two numbers that may be in order, as canonical ones they are the ends of want.
func testMake(t *testing.T, lo, hi api.Rat, ordered bool, want api.Interval) {
	t.Helper()
	got, e := interval.Make(lo, hi)
	if !ordered {
		expectError(t, "Make of "+show(want), got, e, api.ErrRange)
		return
	}
	expect(t, "Make of "+show(want), got, want)
	if e != api.OK {
		t.Errorf("Make of %s: error %d", show(want), e)
	}
}

func TestValid(t *testing.T) {
	list := many()
	for i, x := range list {
		for k, y := range list {
			for _, lo := range sample.Forms(x) {
				for _, hi := range sample.Forms(y) {
					want := i <= k && sample.SameRat(lo, x) && sample.SameRat(hi, y)
					if got := interval.Valid(api.Interval{Lo: lo, Hi: hi}); got != want {
						t.Errorf("Valid of %v to %v: %v", lo, hi, got)
					}
				}
			}
		}
	}
}

// Each of these intervals breaks one condition.
func TestNotValid(t *testing.T) {
	for _, i := range []api.Interval{
		{Lo: api.Rat{Neg: true}}, {Hi: api.Rat{Neg: true}}, {Lo: api.Rat{Num: api.Nat{0}}}, {Hi: api.Rat{Num: api.Nat{5, 0}}}, {Hi: api.Rat{Num: api.Nat{5}, Den: api.Nat{1}}},
		{Lo: api.Rat{Neg: true, Num: api.Nat{6}, Den: api.Nat{4}}}, {Hi: api.Rat{Num: api.Nat{6}, Den: api.Nat{4}}}, {Lo: api.Rat{Den: api.Nat{3}}, Hi: api.Rat{Num: api.Nat{1}}},
		{Lo: api.Rat{Num: api.Nat{1}}}, {Hi: api.Rat{Neg: true, Num: api.Nat{1}}}, span("2/3 1/2"), span("-1/3 -1/2"), span("18446744073709551617 18446744073709551616"),
	} {
		if interval.Valid(i) {
			t.Errorf("%v is valid", i)
		}
	}
	empty := api.Rat{Num: api.Nat{}, Den: api.Nat{}}
	for _, i := range []api.Interval{{}, {Lo: empty, Hi: empty}, {Lo: empty, Hi: api.Rat{Num: api.Nat{9}, Den: api.Nat{4}}}, span("-1/2 -1/3"), span("-1/2 -1/2")} {
		if !interval.Valid(i) {
			t.Errorf("%v is not valid", i)
		}
	}
}

func TestContains(t *testing.T) {
	list := many()
	for _, i := range pairs(list) {
		for k, x := range list {
			want := i.lo <= k && k <= i.hi
			for _, form := range sample.Forms(x) {
				if got := interval.Contains(i.Interval, form); got != want {
					t.Errorf("Contains of %s and %v: %v", show(i.Interval), form, got)
				}
			}
		}
		for _, x := range points(i.Interval) {
			if !interval.Contains(i.Interval, x) {
				t.Errorf("%s does not contain %v", show(i.Interval), x)
			}
		}
	}
}

func TestWithin(t *testing.T) {
	for _, a := range pairs(many()) {
		for _, b := range pairs(many()) {
			if got, want := interval.Within(a.Interval, b.Interval), b.lo <= a.lo && a.hi <= b.hi; got != want {
				t.Errorf("Within of %s and %s: %v", show(a.Interval), show(b.Interval), got)
			}
		}
	}
}

func TestAdd(t *testing.T) {
	for _, x := range []struct{ a, b, want string }{
		{"0 0", "0 0", "0 0"}, {"1 2", "3 5", "4 7"}, {"-1 2", "-3 1", "-4 3"}, {"-1/2 1/3", "1/2 2/3", "0 1"}, {"-2 -1", "1 2", "-1 1"}, {"5 5", "-5 -5", "0 0"}, {"-1/3 4294967295", "1/3 1", "0 4294967296"},
	} {
		expect(t, x.a+" + "+x.b, interval.Add(span(x.a), span(x.b)), span(x.want))
		expect(t, x.b+" + "+x.a, interval.Add(span(x.b), span(x.a)), span(x.want))
	}
}

func TestNeg(t *testing.T) {
	for _, x := range []struct{ i, want string }{{"0 0", "0 0"}, {"0 2/3", "-2/3 0"}, {"-5 0", "0 5"}, {"1 2", "-2 -1"}, {"-2 -1", "1 2"}, {"-1/3 4", "-4 1/3"}, {"7 7", "-7 -7"}} {
		expect(t, "-"+x.i, interval.Neg(span(x.i)), span(x.want))
	}
}

func TestScale(t *testing.T) {
	for _, x := range []struct{ i, c, want string }{
		{"1 2", "3", "3 6"}, {"1 2", "-3", "-6 -3"}, {"1 2", "0", "0 0"}, {"-1 2", "1/2", "-1/2 1"}, {"-1 2", "-1/2", "-1 1/2"}, {"-1 2", "0", "0 0"}, {"-4 -2/3", "3/2", "-6 -1"}, {"-4 -2/3", "-3/2", "1 6"},
		{"0 0", "-7", "0 0"}, {"0 5", "-1/5", "-1 0"}, {"-5 0", "1/5", "-1 0"}, {"5 5", "-1/5", "-1 -1"}, {"-1 1", "4294967296", "-4294967296 4294967296"},
	} {
		for _, c := range sample.Forms(sample.Number(x.c)) {
			expect(t, x.i+" times "+x.c, interval.Scale(span(x.i), c), span(x.want))
		}
	}
}

// Each combination of the signs of the ends, with each end of the result as each one of the four products.
func TestMul(t *testing.T) {
	for _, x := range []struct{ a, b, want string }{
		{"2 3", "5 7", "10 21"}, {"2 3", "-5 7", "-15 21"}, {"2 3", "-7 -5", "-21 -10"}, {"2 3", "0 7", "0 21"}, {"2 3", "-7 0", "-21 0"},
		{"-3 -2", "5 7", "-21 -10"}, {"-3 -2", "-5 7", "-21 15"}, {"-3 -2", "-7 -5", "10 21"}, {"-3 -2", "0 7", "-21 0"}, {"-3 -2", "-7 0", "0 21"},
		{"-2 3", "5 7", "-14 21"}, {"-2 3", "-7 -5", "-21 14"}, {"-2 3", "0 7", "-14 21"}, {"-2 3", "-7 0", "-21 14"},
		{"-2 3", "-5 7", "-15 21"}, {"-3 2", "-5 7", "-21 15"}, {"-3 2", "-7 5", "-15 21"}, {"-2 3", "-7 5", "-21 15"}, {"-1 5", "-2 3", "-10 15"}, {"-5 1", "-3 2", "-10 15"},
		{"0 3", "0 7", "0 21"}, {"0 3", "-7 0", "-21 0"}, {"-3 0", "-7 0", "0 21"}, {"0 3", "-5 7", "-15 21"}, {"-3 0", "-5 7", "-21 15"},
		{"0 0", "-5 7", "0 0"}, {"0 0", "0 0", "0 0"}, {"2 2", "-3 -3", "-6 -6"}, {"-3 -3", "-3 -3", "9 9"}, {"-1/2 2/3", "3/4 3/4", "-3/8 1/2"}, {"4294967296 4294967297", "1/4294967296 1", "1 4294967297"},
	} {
		expect(t, x.a+" times "+x.b, interval.Mul(span(x.a), span(x.b)), span(x.want))
		expect(t, x.b+" times "+x.a, interval.Mul(span(x.b), span(x.a)), span(x.want))
	}
}

func TestRelu(t *testing.T) {
	for _, x := range []struct{ i, want string }{
		{"1 2", "1 2"}, {"1/3 1/3", "1/3 1/3"}, {"0 2", "0 2"}, {"0 0", "0 0"}, {"-1/2 1/2", "0 1/2"}, {"-1 0", "0 0"}, {"-2 -1", "0 0"}, {"-5 -5", "0 0"}, {"-4294967296 18446744073709551616", "0 18446744073709551616"},
	} {
		expect(t, "Relu of "+x.i, interval.Relu(span(x.i)), span(x.want))
	}
}

func TestJoinAndMeet(t *testing.T) {
	list := many()
	for _, a := range pairs(list) {
		for _, b := range pairs(list) {
			what := show(a.Interval) + " and " + show(b.Interval)
			expect(t, "Join of "+what, interval.Join(a.Interval, b.Interval), api.Interval{Lo: list[min(a.lo, b.lo)], Hi: list[max(a.hi, b.hi)]})
			lo, hi := max(a.lo, b.lo), min(a.hi, b.hi)
			both, e := interval.Meet(a.Interval, b.Interval)
			if lo > hi {
				expectError(t, "Meet of "+what, both, e, api.ErrNone)
				continue
			}
			expect(t, "Meet of "+what, both, api.Interval{Lo: list[lo], Hi: list[hi]})
			if e != api.OK {
				t.Errorf("Meet of %s: error %d", what, e)
			}
		}
	}
}

func TestRound(t *testing.T) {
	for _, x := range []struct {
		i    string
		bits int
		want string
	}{
		{"0 0", 1, "0 0"}, {"3/8 5", 3, "3/8 5"}, {"3/8 5", 2, "3/8 6"}, {"3/8 5", 1, "1/4 8"}, {"1/3 5", 2, "1/4 6"}, {"-1/3 1/3", 2, "-3/8 3/8"}, {"-1/3 1/3", 1, "-1/2 1/2"}, {"-5 -3/8", 2, "-6 -3/8"}, {"-5 -1/3", 2, "-6 -1/4"},
		{"-1/3 0", 3, "-3/8 0"}, {"0 1/3", 4, "0 11/32"}, {"7 7", 3, "7 7"}, {"7 7", 2, "6 8"}, {"-7 -7", 2, "-8 -6"}, {"4294967295 4294967297", 32, "4294967295 4294967298"}, {"4294967295 4294967297", 33, "4294967295 4294967297"},
	} {
		expect(t, "Round of "+x.i, round(t, span(x.i), x.bits), span(x.want))
	}
}

// The numbers of bits are from 1 to 4096. Another one is the first error, also for ends that are out of range.
func TestBitsOfRound(t *testing.T) {
	huge := power(1_000_000)
	for _, bits := range []int{math.MinInt, -4096, -1, 0, 4097, math.MaxInt} {
		for _, i := range []api.Interval{{}, span("1/3 1/2"), {Hi: huge}, {Lo: minus(huge), Hi: huge}} {
			rounded, e := interval.Round(i, bits)
			expectError(t, "Round", rounded, e, api.ErrArg)
		}
	}
	expect(t, "Round to 1 bit", round(t, span("-3/7 1/3"), 1), span("-1/2 1/2"))
	lo, hi := rational.Add(power(4095), sample.Number("1")), power(4096)
	above, next := rational.Add(hi, sample.Number("1")), rational.Add(hi, sample.Number("2"))
	expect(t, "Round to 4096 bits", round(t, api.Interval{Lo: lo, Hi: above}, 4096), api.Interval{Lo: lo, Hi: next})
	expect(t, "Round to 4096 bits", round(t, api.Interval{Lo: minus(above), Hi: lo}, 4096), api.Interval{Lo: minus(next), Hi: lo})
}

// An end that layer 5 cannot round is an error, whichever one it is.
func TestRangeOfRound(t *testing.T) {
	huge, one := power(1_000_000), sample.Number("1")
	tiny, least := api.Rat{Num: one.Num, Den: power(1_000_001).Num}, api.Rat{Num: one.Num, Den: huge.Num}
	for i, x := range []api.Interval{
		{Hi: huge}, {Lo: one, Hi: huge}, {Lo: huge, Hi: huge}, {Lo: minus(huge)}, {Lo: minus(huge), Hi: one}, {Lo: minus(huge), Hi: huge},
		{Hi: tiny}, {Lo: tiny, Hi: one}, {Lo: minus(tiny)}, {Lo: minus(one), Hi: minus(tiny)}, {Lo: minus(tiny), Hi: tiny}, {Lo: minus(huge), Hi: tiny},
	} {
		if rounded, e := interval.Round(x, 40); e != api.ErrRange || !same(rounded, api.Interval{}) {
			t.Errorf("Round of interval %d: error %d", i, e)
		}
	}
	below := api.Rat{Num: slices.Repeat(api.Nat{1<<32 - 1}, len(huge.Num)-1)}
	for i, x := range []struct{ from, want api.Interval }{
		{api.Interval{Hi: below}, api.Interval{Hi: huge}}, {api.Interval{Lo: minus(below), Hi: least}, api.Interval{Lo: minus(huge), Hi: least}}, {api.Interval{Lo: minus(least), Hi: least}, api.Interval{Lo: minus(least), Hi: least}},
	} {
		if rounded := round(t, x.from, 40); !same(rounded, x.want) {
			t.Errorf("Round of the last interval %d is wrong", i)
		}
	}
}

// power returns 2^k, for a k that is not negative.
func power(k int) api.Rat {
	return dyadic.Rat(api.Dyadic{Mag: api.Nat{1}, Exp: k})
}

// minus returns a number with the other sign.
func minus(x api.Rat) api.Rat {
	x.Neg = !x.Neg
	return x
}

// The ends of an interval are rounded as layer 5 rounds them.
func TestRoundOfEnds(t *testing.T) {
	for _, i := range pairs(many()) {
		for _, bits := range []int{1, 2, 3, 5, 31, 32, 33, 64, 65, 200, 4096} {
			lo, _ := dyadic.Down(i.Lo, bits)
			hi, _ := dyadic.Up(i.Hi, bits)
			expect(t, "Round of "+show(i.Interval), round(t, i.Interval, bits), api.Interval{Lo: dyadic.Rat(lo), Hi: dyadic.Rat(hi)})
		}
	}
}

// The result is the least interval that contains all results for numbers; since an operation has its extremes at ends, these are among the points.
func TestOperations(t *testing.T) {
	list := pairs(many())
	for _, o := range operations() {
		for _, a := range list {
			for _, b := range o.seconds(list) {
				expect(t, o.name+" of "+show(a.Interval)+" and "+show(b.Interval), o.intervals(a.Interval, b.Interval), hull(results(o, a.Interval, b.Interval)))
			}
		}
	}
}

// results returns the results of an operation for points of two intervals.
func results(o operation, a, b api.Interval) []api.Rat {
	var out []api.Rat
	for _, x := range points(a) {
		for _, y := range points(b) {
			out = append(out, o.numbers(x, y))
		}
	}
	return out
}
