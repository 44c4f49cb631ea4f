package syntax

import "dragnet/api"

// fault is what a panic of a reader carries.
type fault struct {
	code api.Errno
	at   int
}

// reader reads a text from the front.
type reader struct {
	text string
	at   int // the place of the next byte
	open int // how many brackets are open
}

func (p *reader) giveUp(code api.Errno, at int) { panic(fault{code, at}) }

func (p *reader) atEnd() bool { return p.at == len(p.text) }

func (p *reader) is(b byte) bool { return !p.atEnd() && p.text[p.at] == b }

// take passes over a byte, if it is the next one.
func (p *reader) take(b byte) bool {
	if !p.is(b) {
		return false
	}
	p.at++
	return true
}

// whole reads all of the text. Where alternatives end ahead of its end, a bracket ends that none is open for.
func (p *reader) whole() api.Regex {
	r := p.alternatives()
	if !p.atEnd() {
		p.giveUp(api.ErrParen, p.at)
	}
	return r
}

func (p *reader) alternatives() api.Regex {
	list := []api.Regex{p.alternative()}
	for p.take('|') {
		list = append(list, p.alternative())
	}
	return together(api.RxAlt, list)
}

func (p *reader) alternative() api.Regex {
	var things []api.Regex
	for !p.atEnd() && !p.is('|') && !p.is(')') {
		things = append(things, p.thing(len(things) == 0))
	}
	return together(api.RxCat, things)
}

// together is the tree of some parts: of that kind, if they are several.
func together(kind int, list []api.Regex) api.Regex {
	switch len(list) {
	case 0:
		return api.Regex{Kind: api.RxEmpty}
	case 1:
		return list[0]
	}
	return api.Regex{Kind: kind, Kids: list}
}

// thing reads one, with its sign of repeating. Where a thing should begin, such a sign has none ahead of it that it may repeat.
func (p *reader) thing(first bool) api.Regex {
	switch p.text[p.at] {
	case '*', '+', '?', '{':
		p.giveUp(api.ErrRepeat, p.at)
	case '^':
		return p.beginning(first)
	case '$':
		return p.end()
	}
	return p.repeated(p.bare())
}

func (p *reader) beginning(first bool) api.Regex {
	if p.open > 0 || !first {
		p.giveUp(api.ErrAnchor, p.at)
	}
	p.at++
	return api.Regex{Kind: api.RxBegin}
}

func (p *reader) end() api.Regex {
	at := p.at
	p.at++
	if p.open > 0 || !p.atEnd() && !p.is('|') {
		p.giveUp(api.ErrAnchor, at)
	}
	return api.Regex{Kind: api.RxEnd}
}

// bare reads a thing that may be repeated.
func (p *reader) bare() api.Regex {
	b := p.text[p.at]
	switch b {
	case '(':
		return p.brackets()
	case '[':
		return api.Regex{Kind: api.RxSet, Set: p.class()}
	case '\\':
		return api.Regex{Kind: api.RxSet, Set: p.escape().set}
	}
	p.at++
	if b == '.' {
		return api.Regex{Kind: api.RxSet, Set: span(0, 255)}
	}
	return api.Regex{Kind: api.RxSet, Set: span(b, b)}
}

func (p *reader) brackets() api.Regex {
	if p.open == api.MaxDeep {
		p.giveUp(api.ErrDeep, p.at)
	}
	p.at++
	p.open++
	r := p.alternatives()
	if !p.take(')') {
		p.giveUp(api.ErrParen, p.at)
	}
	p.open--
	return r
}

// repeated is a thing with the sign of repeating behind it, if there is one.
func (p *reader) repeated(r api.Regex) api.Regex {
	low, high := 0, api.Infinite
	switch {
	case p.take('*'):
	case p.take('+'):
		low = 1
	case p.take('?'):
		high = 1
	case p.is('{'):
		low, high = p.counts()
	default:
		return r
	}
	return api.Regex{Kind: api.RxRep, Kids: []api.Regex{r}, Min: low, Max: high}
}

// counts reads what stands in braces.
func (p *reader) counts() (int, int) {
	at := p.at
	p.at++
	low, ok := p.number()
	high := low
	if ok && p.take(',') {
		high = api.Infinite
		if !p.is('}') {
			high, ok = p.number()
			ok = ok && low <= high
		}
	}
	if !ok || !p.take('}') {
		p.giveUp(api.ErrRepeat, at)
	}
	return low, high
}

// number reads a count: it goes no further than to the first digit that makes it too great.
func (p *reader) number() (int, bool) {
	at, n := p.at, 0
	for !p.atEnd() && isDigit(p.text[p.at]) && n <= api.MaxCount {
		n = n*10 + int(p.text[p.at]-'0')
		p.at++
	}
	digits := p.text[at:p.at]
	return n, digits == "0" || digits != "" && digits[0] != '0' && n <= api.MaxCount
}

func isDigit(b byte) bool { return b >= '0' && b <= '9' }

func isLetter(b byte) bool { return b >= 'A' && b <= 'Z' || b >= 'a' && b <= 'z' }
