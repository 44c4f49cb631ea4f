package syntax

import "dragnet/api"

// piece is what one escape, or one byte of a class, has.
type piece struct {
	set    api.Set
	single bool
	only   byte // of a single one: its byte
}

func oneByte(b byte) piece { return piece{set: span(b, b), single: true, only: b} }

// escape reads one, from its backslash on.
func (p *reader) escape() piece {
	at := p.at
	if at+1 == len(p.text) {
		p.giveUp(api.ErrEscape, at)
	}
	b := p.text[at+1]
	p.at += 2
	switch b {
	case 'n':
		return oneByte('\n')
	case 't':
		return oneByte('\t')
	case 'r':
		return oneByte('\r')
	case 'x':
		high := p.sixteenth(at)
		return oneByte(high<<4 | p.sixteenth(at))
	case 'd', 'w', 's':
		return piece{set: named(b)}
	case 'D', 'W', 'S':
		return piece{set: rest(named(b - 'A' + 'a'))}
	}
	if b < 32 || b > 126 || isLetter(b) || isDigit(b) {
		p.giveUp(api.ErrEscape, at)
	}
	return oneByte(b)
}

// named is the bytes of the escape of a small letter.
func named(letter byte) api.Set {
	digits := span('0', '9')
	switch letter {
	case 'd':
		return digits
	case 'w':
		return union(digits, span('A', 'Z'), span('a', 'z'), span('_', '_'))
	}
	return union(span(9, 13), span(' ', ' '))
}

// sixteenth reads one, of the escape that begins at a place.
func (p *reader) sixteenth(escape int) byte {
	var b byte
	if !p.atEnd() {
		b = p.text[p.at]
	}
	p.at++
	switch {
	case isDigit(b):
		return b - '0'
	case b >= 'A' && b <= 'F':
		return b - 'A' + 10
	case b >= 'a' && b <= 'f':
		return b - 'a' + 10
	}
	p.giveUp(api.ErrEscape, escape)
	return 0
}

// class reads one, from its bracket on.
func (p *reader) class() api.Set {
	p.at++
	not := p.take('^')
	if p.is(']') {
		p.giveUp(api.ErrClass, p.at)
	}
	var set api.Set
	for !p.take(']') {
		set = union(set, p.item())
	}
	if not {
		return rest(set)
	}
	return set
}

// item reads a range, or what has no range behind it.
func (p *reader) item() api.Set {
	first := p.classPiece()
	if !first.single || !p.isRange() {
		return first.set
	}
	p.at++
	at := p.at
	last := p.classPiece()
	if !last.single || last.only < first.only {
		p.giveUp(api.ErrClass, at)
	}
	return span(first.only, last.only)
}

// isRange tells whether a hyphen stands there that does not end its class.
func (p *reader) isRange() bool {
	return p.is('-') && p.at+1 < len(p.text) && p.text[p.at+1] != ']'
}

// classPiece reads one of a class.
func (p *reader) classPiece() piece {
	if p.atEnd() {
		p.giveUp(p.cutOff(), p.at)
	}
	if p.is('\\') {
		return p.escape()
	}
	p.at++
	return oneByte(p.text[p.at-1])
}

// cutOff is what is told of a text that ends within a class: if brackets are open too, there are two errors at its end, and theirs is the one that is named first.
func (p *reader) cutOff() api.Errno {
	if p.open > 0 {
		return api.ErrParen
	}
	return api.ErrClass
}
