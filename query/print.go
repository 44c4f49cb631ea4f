package query

import (
	"strings"

	"dragnet/api"
	"dragnet/moment"
	"dragnet/syntax"
)

const sixteenths = "0123456789ABCDEF"

// writeQuery writes a query of which only its length may be wrong.
func writeQuery(b *strings.Builder, q api.Query) {
	if q.From != 0 || q.To != forever {
		b.WriteByte('[')
		writeBound(b, q.From, 0)
		b.WriteString("..")
		writeBound(b, q.To, forever)
		b.WriteString("] ")
	}
	writeExpr(b, q.Expr)
}

// writeBound writes a stamp, if it is another than that of nothing.
func writeBound(b *strings.Builder, stamp, otherwise int) {
	if stamp != otherwise {
		s, _ := moment.Show(stamp)
		b.WriteString(s)
	}
}

func writeExpr(b *strings.Builder, x api.Expr) {
	switch x.Kind {
	case api.ExAll:
		b.WriteByte('*')
	case api.ExTerm:
		writeTerm(b, x.Term)
	case api.ExNot:
		b.WriteString("not ")
		writeKids(b, x, "")
	case api.ExAnd:
		writeKids(b, x, " ")
	case api.ExOr:
		writeKids(b, x, " or ")
	}
}

func writeKids(b *strings.Builder, x api.Expr, between string) {
	for i, kid := range x.Kids {
		if i > 0 {
			b.WriteString(between)
		}
		if kid.Kind == api.ExOr || kid.Kind == api.ExAnd && x.Kind != api.ExOr {
			b.WriteByte('(')
			writeExpr(b, kid)
			b.WriteByte(')')
		} else {
			writeExpr(b, kid)
		}
	}
}

func writeTerm(b *strings.Builder, t api.Term) {
	switch {
	case t.Kind == api.TermField:
		b.WriteString(t.Name)
		b.WriteString(comparisonTexts[t.Op])
		writeValue(b, t.Text)
	case t.Kind == api.TermText && t.Fold && isPlainWord(t.Text):
		b.WriteString(t.Text)
	case t.Kind == api.TermText:
		writeQuoted(b, t.Text)
		writeFold(b, t.Fold)
	case t.Kind == api.TermRegex:
		b.WriteByte('/')
		b.WriteString(slashed(t.Text))
		b.WriteByte('/')
		writeFold(b, t.Fold)
	}
}

func writeFold(b *strings.Builder, fold bool) {
	if fold {
		b.WriteByte('i')
	}
}

// isPlainWord tells whether a text is one word that is a term.
func isPlainWord(s string) bool {
	c := cutter{text: s}
	t := c.next()
	return t.kind == isWord && t.from == 0 && t.to == len(s)
}

func writeValue(b *strings.Builder, s string) {
	if s != "" && rowEnd(s, 0) == len(s) {
		b.WriteString(s)
	} else {
		writeQuoted(b, s)
	}
}

func writeQuoted(b *strings.Builder, s string) {
	b.WriteByte('"')
	for i := range len(s) {
		switch c := s[i]; {
		case c == '"' || c == '\\':
			b.WriteByte('\\')
			b.WriteByte(c)
		case c < ' ' || c > 126:
			b.WriteString(`\x`)
			b.WriteByte(sixteenths[c>>4])
			b.WriteByte(sixteenths[c&15])
		default:
			b.WriteByte(c)
		}
	}
	b.WriteByte('"')
}

// slashed is a regex's text as it stands between slashes. What syntax.Print writes has no backslash ahead of a slash: each one gets its own.
func slashed(s string) string { return strings.ReplaceAll(s, "/", `\/`) }

// regexText is the one text of all that say the same regex; false, and the place, if a text says none, or one that may not be.
func regexText(s string) (string, int, bool) {
	r, e, at := syntax.Parse(s)
	if e != api.OK {
		return "", at, false
	}
	text, e := syntax.Print(r)
	if e == api.OK {
		_, e, _ = syntax.Parse(text)
	}
	if e != api.OK || len(slashed(text)) > api.MaxRegex {
		return "", 0, false
	}
	return text, 0, true
}
