package query

import (
	"strings"

	"dragnet/api"
)

// Kinds of tokens, and what there may be instead of one. Terms come last.
const (
	isEnd    = iota // nothing is left
	isNone          // a byte at which none begins
	isOpen          // (
	isClose         // )
	isAll           // *
	isNot           // the word, or a -
	isOr            // the word
	isAnd           // the word
	isRange         // in brackets
	isWord          // any other word
	isQuoted        // a text in quotation marks
	isRegex         // between slashes
	isField         // a name, a comparison and a value
)

// token is what a text is cut to.
type token struct {
	kind  int
	from  int // the place of its first byte
	to    int // the place behind its last one
	end   int // of a range, a quoted text and a regex: the place of the byte that ends it, to if there is none
	sign  int // of a field term: the place of its comparison
	op    int // of a field term: which one that is; 0: none
	value int // of a field term: where its value would begin
}

// ended tells whether a range, a quoted text or a regex has its end, folds whether an i belongs to it.
func (t token) ended() bool { return t.end < t.to }

func (t token) folds() bool { return t.end+1 < t.to }

const (
	signs       = `"()|=!<>~*` // can be seen, but stand in no word
	comparisons = `=!<>~`      // make the word ahead of them a name
)

// comparisonTexts is the comparisons, by their numbers.
var comparisonTexts = [...]string{api.OpIs: "=", api.OpNot: "!=", api.OpBelow: "<", api.OpMost: "<=", api.OpAbove: ">", api.OpLeast: ">=", api.OpHas: "~"}

// cutter cuts a text to tokens, from the front. It takes whatever comes: to refuse what may not be is left to the reader.
type cutter struct {
	text  string
	at    int  // the place behind what was cut off
	begun bool // a token was cut off
}

// next cuts off the next token, with the blanks ahead of it.
func (c *cutter) next() token {
	for c.at < len(c.text) && c.text[c.at] == ' ' {
		c.at++
	}
	t := c.token()
	c.at = t.to
	c.begun = c.begun || t.kind > isNone
	return t
}

func (c *cutter) token() token {
	if c.at == len(c.text) {
		return token{kind: isEnd, from: c.at, to: c.at}
	}
	switch b := c.text[c.at]; {
	case b == '(':
		return c.single(isOpen)
	case b == ')':
		return c.single(isClose)
	case b == '*':
		return c.single(isAll)
	case b == '-':
		return c.single(isNot)
	case b == '"':
		return c.marked(isQuoted)
	case b == '/':
		return c.marked(isRegex)
	case b == '[' && !c.begun:
		return c.span()
	case b != '[' && isWordByte(b):
		return c.word()
	}
	return c.single(isNone)
}

func (c *cutter) single(kind int) token { return token{kind: kind, from: c.at, to: c.at + 1} }

// marked cuts off a quoted text or a regex.
func (c *cutter) marked(kind int) token {
	end := closing(c.text, c.at)
	to := min(end+1, len(c.text))
	if strings.HasPrefix(c.text[to:], "i") {
		to++
	}
	return token{kind: kind, from: c.at, to: to, end: end}
}

// closing is the place of the byte that closes what the same byte at a place opens: the next one that no backslash takes along; the text's length, if there is none.
func closing(s string, from int) int {
	at := from + 1
walk:
	for at < len(s) {
		switch s[at] {
		case s[from]:
			break walk
		case '\\':
			at += 2
		default:
			at++
		}
	}
	return min(at, len(s))
}

func (c *cutter) span() token {
	if n := strings.IndexByte(c.text[c.at:], ']'); n >= 0 {
		return token{kind: isRange, from: c.at, to: c.at + n + 1, end: c.at + n}
	}
	return token{kind: isRange, from: c.at, to: len(c.text), end: len(c.text)}
}

// word cuts off a word, or the field term whose name it is.
func (c *cutter) word() token {
	to := rowEnd(c.text, c.at)
	if to < len(c.text) && strings.IndexByte(comparisons, c.text[to]) >= 0 {
		return c.field(to)
	}
	kind := isWord
	switch c.text[c.at:to] {
	case "or":
		kind = isOr
	case "and":
		kind = isAnd
	case "not":
		kind = isNot
	}
	return token{kind: kind, from: c.at, to: to}
}

// field cuts off a field term whose comparison begins at a place. A ! alone is no comparison: behind it is no value.
func (c *cutter) field(sign int) token {
	op := longest(c.text[sign:])
	value := sign + len(comparisonTexts[op])
	t := token{kind: isField, from: c.at, sign: sign, op: op, value: value}
	switch {
	case op == 0:
		t.to = sign + 1
	case strings.HasPrefix(c.text[value:], `"`):
		t.to = min(closing(c.text, value)+1, len(c.text))
	default:
		t.to = rowEnd(c.text, value)
	}
	return t
}

// longest is the longest comparison with which a text begins; 0: it begins with none.
func longest(s string) int {
	best := 0
	for op, sign := range comparisonTexts {
		if len(sign) > len(comparisonTexts[best]) && strings.HasPrefix(s, sign) {
			best = op
		}
	}
	return best
}

// rowEnd is the place behind the word bytes that stand at a place.
func rowEnd(s string, at int) int {
	for at < len(s) && isWordByte(s[at]) {
		at++
	}
	return at
}

func isWordByte(b byte) bool { return b > ' ' && b != 127 && strings.IndexByte(signs, b) < 0 }
