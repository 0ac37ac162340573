package linear

import (
	"strconv"

	"relucert/api"
	"relucert/decimal"
	"relucert/rational"
)

// The greatest numbers of digits of a text: on each side of the slash of a number, and of a variable.
const (
	numberDigits   = 200
	variableDigits = 9
)

// Parse returns the form with a text.
func Parse(s string) (api.Affine, int, api.Errno) {
	p := parser{text: s}
	if !p.form() {
		return api.Affine{}, p.next, api.ErrSyntax
	}
	f, e := Make(p.terms, sum(p.constants))
	return f, 0, e
}

// parser reads a text from its start to its end and collects the parts of the form. A method that returns false has found an error: next is the offset of the first byte that cannot follow those before it, or the length of the text.
type parser struct {
	text      string
	next      int // offset of the next byte
	terms     []api.Term
	constants []api.Rat
}

// form reads a form, and the end of the text.
func (p *parser) form() bool {
	neg, _ := p.sign()
	for more := true; more; {
		if !p.part(neg) {
			return false
		}
		neg, more = p.sign()
	}
	return p.next == len(p.text)
}

// sign reads a sign, if there is one, and returns whether it is a minus sign and whether there is one.
func (p *parser) sign() (bool, bool) {
	if p.symbol('-') {
		return true, true
	}
	return false, p.symbol('+')
}

// part reads a part, and negates it if neg is set.
func (p *parser) part(neg bool) bool {
	if p.symbol('x') {
		return p.term(rational.Of(1), neg)
	}
	x, ok := p.number()
	switch {
	case !ok:
		return false
	case p.symbol('*'):
		return p.symbol('x') && p.term(x, neg)
	}
	p.constants = append(p.constants, signed(x, neg))
	return true
}

// term reads the number of the variable of a term, behind its x.
func (p *parser) term(coef api.Rat, neg bool) bool {
	digits, ok := p.whole(variableDigits)
	if !ok {
		return false
	}
	v, _ := strconv.Atoi(digits)
	p.terms = append(p.terms, api.Term{Var: v, Coef: signed(coef, neg)})
	return true
}

// number reads a number.
func (p *parser) number() (api.Rat, bool) {
	text, ok := p.whole(numberDigits)
	if ok && p.symbol('/') {
		p.blanks()
		var den string
		den, ok = p.digits(numberDigits)
		text += "/" + den
	}
	if !ok {
		return api.Rat{}, false
	}
	x, _, _ := decimal.Parse(text)
	return x, true
}

// whole reads 0, or digits, so many at most.
func (p *parser) whole(most int) (string, bool) {
	if p.at('0', '0') {
		p.next++
		return "0", true
	}
	return p.digits(most)
}

// digits reads one or more digits, so many at most, the first of which is not 0.
func (p *parser) digits(most int) (string, bool) {
	start := p.next
	least := byte('1')
	for p.next-start < most && p.at(least, '9') {
		p.next++
		least = '0'
	}
	return p.text[start:p.next], p.next > start
}

// symbol reads a byte, and the blanks before it, which may stand there even if it is not the next one, and reports whether it is.
func (p *parser) symbol(c byte) bool {
	p.blanks()
	if !p.at(c, c) {
		return false
	}
	p.next++
	return true
}

// blanks reads blanks, if there are any.
func (p *parser) blanks() {
	for p.at(' ', ' ') {
		p.next++
	}
}

// at reports whether the next byte is one from least to most.
func (p *parser) at(least, most byte) bool {
	return p.next < len(p.text) && least <= p.text[p.next] && p.text[p.next] <= most
}

// signed returns a number, negated if neg is set.
func signed(x api.Rat, neg bool) api.Rat {
	if neg {
		return rational.Neg(x)
	}
	return x
}
