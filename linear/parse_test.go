package linear_test

import (
	"cmp"
	"maps"
	"regexp"
	"slices"
	"strconv"
	"strings"
	"testing"

	"relucert/api"
	"relucert/linear"
	"relucert/rational"
	"relucert/sample"
)

// expectParsed checks the form of a text.
func expectParsed(t *testing.T, s string, want api.Affine) {
	t.Helper()
	expect(t, "Parse of "+strconv.Quote(short(s)), parsed(t, s), want)
}

// expectSyntaxError checks that a text is not one of a form, and the offset of the error.
func expectSyntaxError(t *testing.T, s string, offset int) {
	t.Helper()
	f, at, e := linear.Parse(s)
	if at != offset || e != api.ErrSyntax || !same(f, api.Affine{}) {
		t.Errorf("Parse of %q: got %s, offset %d, error %d, want offset %d", short(s), show(f), at, e, offset)
	}
}

func TestParse(t *testing.T) {
	for _, x := range []struct {
		text string
		want api.Affine
	}{
		{"0", form("0")}, {"7", form("7")}, {"+7", form("7")}, {"-7", form("-7")}, {"-0", form("0")}, {"1/2", form("1/2")}, {"-1/2", form("-1/2")}, {"6/4", form("3/2")}, {"8/4", form("2")}, {"0/5", form("0")}, {"-0/10", form("0")}, {"100/10", form("10")},
		{"x0", form("0", "1 0")}, {"-x0", form("0", "-1 0")}, {"+x12", form("0", "1 12")}, {"x999999999", form("0", "1 999999999")}, {"2*x3", form("0", "2 3")}, {"-2*x3", form("0", "-2 3")}, {"6/4*x10", form("0", "3/2 10")}, {"-3/7*x0", form("0", "-3/7 0")}, {"1*x5", form("0", "1 5")}, {"0*x5", form("0")}, {"-0*x5", form("0")}, {"0/3*x5+1", form("1")},
		{"2*x0-1/2*x3+5", form("5", "2 0", "-1/2 3")}, {"2*x0 - 1/2*x3 + 5", form("5", "2 0", "-1/2 3")}, {"5-1/2*x3+2*x0", form("5", "2 0", "-1/2 3")}, {"x3-x1+x2-x0", form("0", "-1 0", "-1 1", "1 2", "1 3")},
		{"x1+x1", form("0", "2 1")}, {"x1-x1", form("0")}, {"1/2*x1+x0+1/3*x1-x0+1/6*x1", form("0", "1 1")}, {"1+2+3-1/2", form("11/2")}, {"1-x0-1", form("0", "-1 0")}, {"1/3+2*x2-x2-1/3-x2", form("0")}, {"-x5+x5-x5", form("0", "-1 5")},
		{"4294967296*x1-18446744073709551617/4294967296", form("-18446744073709551617/4294967296", "4294967296 1")},
	} {
		expectParsed(t, x.text, x.want)
	}
}

// Blanks may stand wherever a part of the text ends and the next one begins.
func TestBlanks(t *testing.T) {
	for _, parts := range [][]string{
		{"7"}, {"x0"}, {"-", "7"}, {"+", "x0"}, {"1", "/", "2"}, {"-", "12", "/", "34"}, {"2", "*", "x3"}, {"-", "1", "/", "20", "*", "x31"}, {"x0", "+", "x1"}, {"1", "-", "2"},
		{"2", "*", "x0", "-", "1", "/", "2", "*", "x3", "+", "5"}, {"+", "1", "-", "x2", "+", "3", "*", "x2", "-", "4", "/", "5"},
	} {
		plain := strings.Join(parts, "")
		want := parsed(t, plain)
		for _, blanks := range []string{" ", "   "} {
			expectParsed(t, blanks+strings.Join(parts, blanks)+blanks, want)
			for i := range len(parts) + 1 {
				expectParsed(t, strings.Join(parts[:i], "")+blanks+strings.Join(parts[i:], ""), want)
			}
		}
	}
}

// A blank may not stand within digits, nor between x and its number, and no other space is a blank.
func TestNoBlanks(t *testing.T) {
	for _, x := range []struct {
		text   string
		offset int
	}{
		{"1 2", 2}, {"0 0", 2}, {"1/2 3", 4}, {"12  34*x0", 4}, {"x 0", 1}, {"x  12", 1}, {"2*x 3", 3}, {"x1 2", 3}, {"x0 0", 3}, {"1 + x 2", 5}, {"x ", 1}, {"x0 x1", 3}, {"1 x1", 2},
		{"\t", 0}, {"\n", 0}, {"\t1", 0}, {"1\t", 1}, {"1\n", 1}, {"1 \n", 2}, {"1\r\n", 1}, {"x0 +\tx1", 4}, {"x0\n+ x1", 2}, {"-\t1", 1}, {"1\t/2", 1}, {"1/\n2", 2}, {"2*\tx0", 2}, {"x\t0", 1}, {"x0\v", 2}, {"x0\f", 2}, {"1\u00a0+ 1", 1}, {"1\u2003", 1}, {"\ufeff1", 0},
	} {
		expectSyntaxError(t, x.text, x.offset)
	}
}

func TestParseSyntaxErrors(t *testing.T) {
	for _, x := range []struct {
		text   string
		offset int
	}{
		{"", 0}, {" ", 1}, {"   ", 3}, {"-", 1}, {"+ ", 2}, {" - ", 3}, {"1/", 2}, {"1/ ", 3}, {"2*", 2}, {"2* ", 3}, {"2*x", 3}, {"x", 1}, {"-x", 2}, {"x0+", 3}, {"x0 - ", 5}, {"1+2/", 4}, {"1+2/3*", 6}, {"1+2/3*x", 7},
		{"--1", 1}, {"+-1", 1}, {"- +1", 2}, {"1++1", 2}, {"1 - -x0", 4}, {"x0--x1", 3}, {"*x0", 0}, {"-*x0", 1}, {"/2", 0}, {"1**x0", 2}, {"1//2", 2}, {"1/*x0", 2}, {"1*/2", 2}, {"1/2/3", 3}, {"1*2", 2}, {"2*-x0", 2}, {"1/-2", 2}, {"1/+2", 2}, {"x-1", 1}, {"x+1", 1}, {"2*3*x0", 2},
		{"x0*2", 2}, {"x0/2", 2}, {"x0x1", 2}, {"2x0", 1}, {"2*xx0", 3}, {"2*x0*x1", 4}, {"x0 1", 3}, {"1/2 x0", 4}, {"2*x0 3", 5},
		{"1/0", 2}, {"0/0", 2}, {"1/0*x0", 2}, {"1/ 0", 3}, {"x0 - 1/0", 7}, {"1/x0", 2}, {"00", 1}, {"01", 1}, {"-007", 2}, {"1/02", 2}, {"1/00", 2}, {"00/1", 1}, {"01*x0", 1}, {"x00", 2}, {"x01", 2}, {"2*x07", 4}, {"x0 + x010", 7}, {"0x1", 1},
		{"y0", 0}, {"X0", 0}, {"2*y0", 2}, {"1.5", 1}, {"1e3", 1}, {"1,5", 1}, {"1_000", 1}, {"(1)", 0}, {"x0;", 2}, {"x0 >= 1", 3}, {"x:", 1}, {"1:", 1}, {"/", 0}, {"\x00", 0}, {"1\x00", 1}, {"x0+\xff", 3}, {"٣", 0}, {"x٣", 1}, {"1/٣", 2}, {"1−2", 1}, {"2·x0", 1},
	} {
		expectSyntaxError(t, x.text, x.offset)
	}
}

// digits returns so many digits, the first of which is not 0.
func digits(count int) string {
	return strings.Repeat("7", min(count, 1)) + strings.Repeat("30", count)[:max(count-1, 0)]
}

// A number has at most 200 digits on each side of the slash.
func TestDigitsOfNumbers(t *testing.T) {
	for _, num := range []int{1, 199, 200} {
		for _, den := range []int{1, 199, 200} {
			text := digits(num) + "/" + digits(den)
			x := sample.Number(text)
			expectParsed(t, text, api.Affine{Const: x})
			expectParsed(t, "1 - "+text+"*x2", api.Affine{Const: rational.Of(1), Terms: []api.Term{{Var: 2, Coef: rational.Neg(x)}}})
		}
	}
	most := digits(200)
	expectParsed(t, " -"+most+" - "+most, api.Affine{Const: rational.Mul(sample.Number(most), rational.Of(-2))})
	for _, before := range []string{"", "-", " + ", "x0 - ", "3*x1+ ", "1/", "1/2 + 1 / ", most + "/"} {
		for _, more := range []string{"0", "7", "1/2", "5*x0", strings.Repeat("7", 5000)} {
			expectSyntaxError(t, before+most+more, len(before)+len(most))
		}
	}
}

// A variable has at most 9 digits.
func TestDigitsOfVariables(t *testing.T) {
	for _, text := range []string{"123456789", "100000000", "999999999", "12345678"} {
		v, _ := strconv.Atoi(text)
		for _, coef := range []string{"1", "-1", "2/3"} {
			f := api.Affine{Terms: []api.Term{{Var: v, Coef: sample.Number(coef)}}}
			expectParsed(t, coef+"*x"+text, f)
		}
	}
	for _, before := range []string{"x", "-x", "2*x", "x0 + 1/2 * x"} {
		for _, more := range []string{"0", "9", "00", "999999999999999999999999", "5*x1"} {
			expectSyntaxError(t, before+"123456789"+more, len(before)+9)
		}
	}
}

// grammar returns the pattern of all texts of forms whose numbers have at most 200 digits.
func grammar() *regexp.Regexp {
	variable := `x(0|[1-9][0-9]{0,8})`
	number := `(0|[1-9][0-9]*)( */ *[1-9][0-9]*)?`
	part := `(` + number + `( *\* *` + variable + `)?|` + variable + `)`
	return regexp.MustCompile(`^ *([+-] *)?` + part + `( *[+-] *` + part + `)* *$`)
}

// errorOffset returns the offset of the error in a text, by the definition, and -1 if there is none.
func errorOffset(form *regexp.Regexp, s string) int {
	for i := range len(s) {
		// Whatever a beginning lacks, one of these completes it.
		completes := func(rest string) bool { return form.MatchString(s[:i+1] + rest) }
		if !slices.ContainsFunc([]string{"", "1", "x1"}, completes) {
			return i
		}
	}
	if !form.MatchString(s) {
		return len(s)
	}
	return -1
}

// meaning returns the form of a correct text, by the definition.
func meaning(s string) api.Affine {
	parts := regexp.MustCompile(`([+-]?)([0-9/]*)\*?(x?)([0-9]*)`)
	var constant api.Rat
	coefs := map[int]api.Rat{}
	for _, part := range parts.FindAllStringSubmatch(strings.ReplaceAll(s, " ", ""), -1) {
		sign, number := strings.TrimPrefix(part[1], "+"), cmp.Or(part[2], "1")
		c := sample.Number(sign + number)
		if part[3] == "" {
			constant = rational.Add(constant, c)
			continue
		}
		v, _ := strconv.Atoi(part[4])
		coefs[v] = rational.Add(coefs[v], c)
	}
	return built(constant, slices.Sorted(maps.Keys(coefs)), func(v int) api.Rat { return coefs[v] })
}

// testParse compares Parse with the definition, for a text whose numbers are not too long.
func testParse(t *testing.T, form *regexp.Regexp, s string) {
	t.Helper()
	if offset := errorOffset(form, s); offset >= 0 {
		expectSyntaxError(t, s, offset)
		return
	}
	expectParsed(t, s, meaning(s))
}

// All texts of up to six bytes that can occur in forms.
func TestParseShortTexts(t *testing.T) {
	form := grammar()
	texts := []string{""}
	for range 7 {
		var longer []string
		for _, s := range texts {
			testParse(t, form, s)
			if len(s) == 6 {
				continue
			}
			for _, c := range "01/*x+- " {
				longer = append(longer, s+string(c))
			}
		}
		texts = longer
	}
}

// Every byte, instead of and in front of each byte of a form, and behind it, and every beginning of the form.
func TestParseOtherBytes(t *testing.T) {
	form := grammar()
	for _, s := range []string{"120", "x10", " - 2*x0 - 10/21 * x123456789 + 5 ", "+x1-7/9*x1+0"} {
		for i := range len(s) + 1 {
			testParse(t, form, s[:i])
			for c := range 256 {
				other := string([]byte{byte(c)})
				testParse(t, form, s[:i]+other+s[i:])
				if i < len(s) {
					testParse(t, form, s[:i]+other+s[i+1:])
				}
			}
		}
	}
}

// Long texts of pieces that occur in forms, most of which are correct.
func TestParseManyParts(t *testing.T) {
	form := grammar()
	r := sample.Random(2463534242)
	numbers := []string{"0", "1", "10", "7/3", "12 / 30", "4294967296", "0/9", "18446744073709551617/7"}
	for i := range 2000 {
		var s strings.Builder
		for k := range 1 + r.Below(12) {
			s.WriteString([]string{" + ", "-", "  -", "+ "}[r.Below(4)])
			number, variable := numbers[r.Below(len(numbers))], "x"+strconv.Itoa(r.Below(4)*r.Below(300))
			s.WriteString([]string{number, variable, number + "*" + variable, number + " * " + variable}[r.Below(4)])
			if i%4 == 0 && k > r.Below(12) {
				s.WriteString([]string{" ", "x", "1", "*", "/", "+", "\n"}[r.Below(7)])
			}
		}
		testParse(t, form, s.String())
	}
}
