package object

import (
	"strings"

	"dragnet/api"
)

// fault is what a panic of a reader carries.
type fault struct {
	code api.Errno
	at   int
}

// attempt reads something, and tells how it was given up, if it was.
func attempt(read func()) (f fault) {
	defer func() {
		if given := recover(); given != nil {
			f = given.(fault) // anything else is a mistake of the program, and is not to be hidden
		}
	}()
	read()
	return fault{}
}

// reader reads a text from the front.
type reader struct {
	text string
	at   int // the place of the next byte
	deep int // how many lists and objects are open
}

func (p *reader) giveUp(code api.Errno, at int) { panic(fault{code, at}) }

// cant gives up at the next byte, which can't stand there, or at the text's end, where one is missing.
func (p *reader) cant() { p.giveUp(api.ErrJSON, p.at) }

func (p *reader) atEnd() bool { return p.at == len(p.text) }

func (p *reader) is(b byte) bool { return !p.atEnd() && p.text[p.at] == b }

// take passes over a byte, if it is the next one, takeOf over one from low to high.
func (p *reader) take(b byte) bool { return p.takeOf(b, b) }

func (p *reader) takeOf(low, high byte) bool {
	if p.atEnd() || p.text[p.at] < low || p.text[p.at] > high {
		return false
	}
	p.at++
	return true
}

// need and needOf take what must stand there.
func (p *reader) need(b byte) { p.needOf(b, b) }

func (p *reader) needOf(low, high byte) {
	if !p.takeOf(low, high) {
		p.cant()
	}
}

func (p *reader) blanks() {
	for p.take(' ') || p.take('\t') || p.take('\n') || p.take('\r') {
	}
}

func (p *reader) whole() api.Value {
	v := p.value()
	if !p.atEnd() {
		p.cant()
	}
	return v
}

// value reads one, with the blanks ahead of it and behind it.
func (p *reader) value() api.Value {
	p.blanks()
	v := p.bare()
	p.blanks()
	return v
}

// bare reads a value. What begins as none of the others do is a number, or can't stand there.
func (p *reader) bare() api.Value {
	switch {
	case p.is('n'):
		return p.word("null", api.ValNull)
	case p.is('f'):
		return p.word("false", api.ValFalse)
	case p.is('t'):
		return p.word("true", api.ValTrue)
	case p.is('"'):
		return api.Value{Kind: api.ValText, Text: p.quoted()}
	case p.is('['):
		return p.list()
	case p.is('{'):
		return p.object()
	}
	return api.Value{Kind: api.ValNumber, Text: p.number()}
}

func (p *reader) word(word string, kind int) api.Value {
	for i := range len(word) {
		p.need(word[i])
	}
	return api.Value{Kind: kind}
}

func (p *reader) number() string {
	from := p.at
	p.take('-')
	if !p.take('0') {
		p.digits()
	}
	if p.take('.') {
		p.digits()
	}
	if p.take('e') || p.take('E') {
		if !p.take('+') {
			p.take('-')
		}
		p.digits()
	}
	return strings.Clone(p.text[from:p.at])
}

// digits reads one or more.
func (p *reader) digits() {
	p.needOf('0', '9')
	for p.takeOf('0', '9') {
	}
}

func (p *reader) list() api.Value {
	v := api.Value{Kind: api.ValList}
	p.brackets(']', func() {
		v.Kids = append(v.Kids, p.value())
	})
	return v
}

func (p *reader) object() api.Value {
	v := api.Value{Kind: api.ValObject}
	ahead := map[string]struct{}{}
	p.brackets('}', func() {
		v.Names = append(v.Names, p.name(ahead))
		v.Kids = append(v.Kids, p.value())
	})
	return v
}

// name reads one that is none of those ahead, and what parts it from its value.
func (p *reader) name(ahead map[string]struct{}) string {
	p.blanks()
	at := p.at
	name := p.quoted()
	if _, twice := ahead[name]; twice {
		p.giveUp(api.ErrTwice, at)
	}
	ahead[name] = struct{}{}
	p.blanks()
	p.need(':')
	return name
}

// brackets reads from one bracket to the other: things with a comma between each two, perhaps none.
func (p *reader) brackets(closing byte, thing func()) {
	if p.deep == api.MaxDeep {
		p.giveUp(api.ErrDeep, p.at)
	}
	p.deep++
	p.at++
	p.blanks()
	if !p.take(closing) {
		thing()
		for !p.take(closing) {
			p.need(',')
			thing()
		}
	}
	p.deep--
}
