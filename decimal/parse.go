package decimal

import (
	"relucert/api"
	"relucert/natural"
	"relucert/rational"
)

// Parse returns the rational number of a text.
func Parse(s string) (api.Rat, int, api.Errno) {
	p := parser{text: s}
	x := p.number()
	if p.errno != api.OK {
		return api.Rat{}, p.offset, p.errno
	}
	return x, 0, api.OK
}

// parser reads a text from its start to its end. It may go on after an error, since it keeps the first one.
type parser struct {
	text   string
	next   int       // offset of the next byte
	count  int       // digits that have been read
	errno  api.Errno // first error
	offset int       // offset of the first error
}

// number reads a number, and the end of the text.
func (p *parser) number() api.Rat {
	neg := p.skip('-')
	num, den := p.digits(), natural.Of(1)
	start := p.next + 1 // offset of the denominator, if there is one
	switch {
	case p.skip('/'):
		den = numberOf(p.digits())
	case p.skip('.'):
		places := p.digits()
		num += places
		den = powerOfTen(len(places))
	}
	p.end()
	x, e := rational.Make(api.Int{Neg: neg, Mag: numberOf(num)}, api.Int{Mag: den})
	if e != api.OK {
		p.fail(start, e)
	}
	return x
}

// skip reads a byte if it is the next one, and reports whether it is.
func (p *parser) skip(c byte) bool {
	if p.next == len(p.text) || p.text[p.next] != c {
		return false
	}
	p.next++
	return true
}

// digits reads one or more digits. It stops in front of one that exceeds the limit, so that no error is costly.
func (p *parser) digits() string {
	start := p.next
	for p.next < len(p.text) && isDigit(p.text[p.next]) {
		if p.count == api.MaxDigits {
			p.fail(p.next, api.ErrLimit)
			break
		}
		p.next++
		p.count++
	}
	if p.next == start {
		p.fail(p.next, api.ErrSyntax)
	}
	return p.text[start:p.next]
}

// end reads the end of the text.
func (p *parser) end() {
	if p.next < len(p.text) {
		p.fail(p.next, api.ErrSyntax)
	}
}

// fail keeps an error, unless there was one before it.
func (p *parser) fail(offset int, e api.Errno) {
	if p.errno == api.OK {
		p.errno, p.offset = e, offset
	}
}

// isDigit reports whether a byte is a decimal digit.
func isDigit(c byte) bool {
	return '0' <= c && c <= '9'
}
