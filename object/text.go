package object

import (
	"strings"
	"unicode/utf8"
)

// The bytes that are written as a backslash and a sign, and these signs in the same order.
const (
	marked = "\"\\\b\t\n\f\r"
	signs  = `"\btnfr`
)

const sixteenths = "0123456789ABCDEF"

// Two numbers together mean a character above FFFF: the first one is from firstHalf on, the second from secondHalf on.
const (
	firstHalf  = 0xD800
	secondHalf = 0xDC00
	aboveAll   = 0x10000
	halfSize   = 0x400
)

// row is what the bytes of a character in UTF-8 may be: the first one, the second one, and how many come behind these.
type row struct {
	first, last byte
	low, high   byte
	more        int
}

var rows = [...]row{
	{0xC2, 0xDF, 0x80, 0xBF, 0},
	{0xE0, 0xE0, 0xA0, 0xBF, 1},
	{0xE1, 0xEC, 0x80, 0xBF, 1},
	{0xED, 0xED, 0x80, 0x9F, 1},
	{0xEE, 0xEF, 0x80, 0xBF, 1},
	{0xF0, 0xF0, 0x90, 0xBF, 2},
	{0xF1, 0xF3, 0x80, 0xBF, 2},
	{0xF4, 0xF4, 0x80, 0x8F, 2},
}

// quoted reads a text, and tells the bytes that it means.
func (p *reader) quoted() string {
	p.need('"')
	var meant []byte
	for {
		from := p.at
		for p.single() || p.several() {
		}
		meant = append(meant, p.text[from:p.at]...)
		if p.take('"') {
			return string(meant)
		}
		p.need('\\')
		meant = utf8.AppendRune(meant, p.escaped())
	}
}

// single passes over a character of one byte that means itself, if there is one.
func (p *reader) single() bool {
	return !p.is('"') && !p.is('\\') && p.takeOf(' ', 127)
}

// several passes over a character of several bytes, if one begins here: then all of it must be there.
func (p *reader) several() bool {
	for _, r := range rows {
		if p.takeOf(r.first, r.last) {
			p.needOf(r.low, r.high)
			for range r.more {
				p.needOf(0x80, 0xBF)
			}
			return true
		}
	}
	return false
}

// escaped reads what stands behind a backslash, and tells the character that it means.
func (p *reader) escaped() rune {
	for i := range len(signs) {
		if p.take(signs[i]) {
			return rune(marked[i])
		}
	}
	if p.take('/') {
		return '/'
	}
	p.need('u')
	return p.numbered()
}

// numbered reads a character's number, or the two numbers of one.
func (p *reader) numbered() rune {
	n, most := p.sixteenth(0, 0xF), rune(0xF)
	if n == 0xD {
		most = 0xB // from DC00 on it would be a second number, and there is no first one
	}
	n = p.twoMore(n<<4 | p.sixteenth(0, most))
	if n < firstHalf || n >= secondHalf {
		return n
	}
	p.need('\\')
	p.need('u')
	second := p.twoMore(p.sixteenth(0xD, 0xD)<<4 | p.sixteenth(0xC, 0xF))
	return aboveAll + (n-firstHalf)*halfSize + second - secondHalf
}

// twoMore is a number with the next two sixteenths behind it.
func (p *reader) twoMore(n rune) rune {
	for range 2 {
		n = n<<4 | p.sixteenth(0, 0xF)
	}
	return n
}

// sixteenth reads one that must be from least to most.
func (p *reader) sixteenth(least, most rune) rune {
	if p.atEnd() {
		p.cant()
	}
	n := rune(strings.IndexByte(sixteenths+"abcdef", p.text[p.at]))
	if n > 0xF {
		n -= 6
	}
	if n < least || n > most {
		p.cant()
	}
	p.at++
	return n
}
