package query

import (
	"strings"

	"dragnet/api"
	"dragnet/fields"
	"dragnet/moment"
)

// fault is what a panic of a reader carries.
type fault struct {
	code api.Errno
	at   int
}

// reader reads a text, token by token.
type reader struct {
	cutter
	here  token // the next one
	terms int   // how many were read
}

func (p *reader) giveUp(code api.Errno, at int) { panic(fault{code, at}) }

// cant gives up at the next token, which can't stand there, or at the text's end, where one is missing.
func (p *reader) cant() { p.giveUp(api.ErrWord, p.here.from) }

// The bytes with which the tokens begin that anything may follow, and those that may follow the others.
const (
	free  = "()-["
	apart = " ()"
)

// pass passes over the next token, and gives up where something follows it that may not.
func (p *reader) pass() {
	first, to := p.text[p.here.from], p.here.to
	if to < len(p.text) && strings.IndexByte(free, first) < 0 && strings.IndexByte(apart, p.text[to]) < 0 {
		p.giveUp(api.ErrWord, to)
	}
	p.here = p.next()
}

// take passes over a token of a kind, if it is the next one.
func (p *reader) take(kind int) bool {
	if p.here.kind != kind {
		return false
	}
	p.pass()
	return true
}

// whole reads all of the text. Where an expression ends ahead of its end, a bracket ends that none is open for.
func (p *reader) whole() api.Query {
	p.here = p.next()
	q := api.Query{To: forever}
	if p.here.kind == isRange {
		q.From, q.To = p.bounds()
		p.pass()
	}
	q.Expr = p.expression()
	if p.here.kind != isEnd {
		p.cant()
	}
	return q
}

func (p *reader) bounds() (int, int) {
	t := p.here
	ahead, behind, ok := strings.Cut(p.text[t.from+1:t.end], "..")
	from, e := bound(ahead, 0)
	to, f := bound(behind, forever)
	if !ok || !t.ended() || e != api.OK || f != api.OK || from > to {
		p.giveUp(api.ErrRange, t.from)
	}
	return from, to
}

// bound is the stamp of a text, or that of nothing.
func bound(s string, otherwise int) (int, api.Errno) {
	if s == "" {
		return otherwise, api.OK
	}
	return moment.Read(s)
}

func (p *reader) expression() api.Expr {
	chains := []api.Expr{p.chain()}
	for p.take(isOr) {
		chains = append(chains, p.chain())
	}
	return together(api.ExOr, chains)
}

func (p *reader) chain() api.Expr {
	parts := []api.Expr{p.part()}
	for p.here.kind != isOr && p.here.kind != isClose && p.here.kind != isEnd {
		p.take(isAnd)
		parts = append(parts, p.part())
	}
	return together(api.ExAnd, parts)
}

// together is the tree of some others: of that kind, if they are several.
func together(kind int, list []api.Expr) api.Expr {
	if len(list) == 1 {
		return list[0]
	}
	return api.Expr{Kind: kind, Kids: list}
}

func (p *reader) part() api.Expr {
	switch {
	case p.take(isAll):
		return api.Expr{Kind: api.ExAll}
	case p.take(isNot):
		return api.Expr{Kind: api.ExNot, Kids: []api.Expr{p.part()}}
	case p.take(isOpen):
		x := p.expression()
		if !p.take(isClose) {
			p.cant()
		}
		return x
	}
	x := api.Expr{Kind: api.ExTerm, Term: p.term()}
	p.pass()
	return x
}

// term reads one, and gives up at any other token.
func (p *reader) term() api.Term {
	t := p.here
	if t.kind < isWord {
		p.cant()
	}
	if p.terms == api.MaxTerms {
		p.giveUp(api.ErrMany, t.from)
	}
	p.terms++
	switch t.kind {
	case isQuoted:
		return p.quoted(t)
	case isRegex:
		return p.regex(t)
	case isField:
		return p.fieldTerm(t)
	}
	return p.plainWord(t)
}

func (p *reader) plainWord(t token) api.Term {
	if t.to-t.from > api.MaxPattern {
		p.cant()
	}
	return api.Term{Kind: api.TermText, Text: strings.Clone(p.text[t.from:t.to]), Fold: true}
}

func (p *reader) quoted(t token) api.Term {
	text := p.said(t.from)
	if text == "" || len(text) > api.MaxPattern {
		p.cant()
	}
	return api.Term{Kind: api.TermText, Text: text, Fold: t.folds()}
}

func (p *reader) regex(t token) api.Term {
	if !t.ended() {
		p.giveUp(api.ErrRegex, len(p.text))
	}
	text, at, ok := regexText(p.text[t.from+1 : t.end])
	if !ok {
		p.giveUp(api.ErrRegex, t.from+1+at)
	}
	return api.Term{Kind: api.TermRegex, Text: text, Fold: t.folds()}
}

func (p *reader) fieldTerm(t token) api.Term {
	name := p.text[t.from:t.sign]
	if !fields.Name(name) {
		p.giveUp(api.ErrField, t.from)
	}
	if t.op == 0 {
		p.giveUp(api.ErrField, t.sign)
	}
	return api.Term{Kind: api.TermField, Text: p.fieldValue(t), Name: strings.Clone(name), Op: t.op}
}

func (p *reader) fieldValue(t token) string {
	if t.value == t.to {
		p.giveUp(api.ErrField, t.value)
	}
	text := p.text[t.value:t.to]
	if text[0] == '"' {
		text = p.said(t.value)
	}
	if len(text) > api.MaxPattern {
		p.giveUp(api.ErrField, t.value)
	}
	return strings.Clone(text)
}

// said is what the quoted text says that begins at a place.
func (p *reader) said(at int) string {
	var b strings.Builder
	for at++; at < len(p.text) && p.text[at] != '"'; {
		c, size := meant(p.text[at:])
		if size == 0 {
			p.giveUp(api.ErrQuote, at)
		}
		b.WriteByte(c)
		at += size
	}
	if at == len(p.text) {
		p.giveUp(api.ErrQuote, at)
	}
	return b.String()
}

// meant is the byte that is meant by what a text begins with, as quoted texts have it, and how many bytes that is; 0, if it is nothing of that.
func meant(s string) (byte, int) {
	switch {
	case s[0] != '\\' && isSeen(s[0]):
		return s[0], 1
	case strings.HasPrefix(s, `\"`), strings.HasPrefix(s, `\\`):
		return s[1], 2
	case strings.HasPrefix(s, `\x`) && len(s) >= 4:
		high, low := strings.IndexByte(sixteenths, s[2]), strings.IndexByte(sixteenths, s[3])
		if high >= 0 && low >= 0 {
			return byte(high<<4 | low), 4
		}
	}
	return 0, 0
}

// isSeen tells whether a byte may stand in a quoted text as it is, quotation marks and backslashes left aside.
func isSeen(b byte) bool { return b >= ' ' && b != 127 }
