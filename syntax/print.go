package syntax

import (
	"slices"
	"strconv"
	"strings"

	"dragnet/api"
)

// The bytes that have a backslash ahead, outside classes and within them.
const (
	signs      = `\[()|*+?{^$.`
	classSigns = `\][^-`
)

func writePart(b *strings.Builder, r api.Regex) {
	switch r.Kind {
	case api.RxEmpty:
		b.WriteString("()")
	case api.RxSet:
		writeSet(b, r.Set)
	case api.RxBegin:
		b.WriteByte('^')
	case api.RxEnd:
		b.WriteByte('$')
	case api.RxCat:
		for _, kid := range r.Kids {
			writeKid(b, kid, api.RxCat, api.RxAlt)
		}
	case api.RxAlt:
		for k, kid := range r.Kids {
			if k > 0 {
				b.WriteByte('|')
			}
			writeKid(b, kid, api.RxAlt)
		}
	case api.RxRep:
		writeKid(b, r.Kids[0], api.RxCat, api.RxAlt, api.RxRep)
		b.WriteString(sign(r.Min, r.Max))
	}
}

// writeKid writes a Kid, in brackets if it is of one of some kinds.
func writeKid(b *strings.Builder, kid api.Regex, bracketed ...int) {
	if !slices.Contains(bracketed, kid.Kind) {
		writePart(b, kid)
		return
	}
	b.WriteByte('(')
	writePart(b, kid)
	b.WriteByte(')')
}

// sign is a sign of repeating.
func sign(low, high int) string {
	switch {
	case low == 0 && high == api.Infinite:
		return "*"
	case low == 1 && high == api.Infinite:
		return "+"
	case low == 0 && high == 1:
		return "?"
	case low == high:
		return "{" + strconv.Itoa(low) + "}"
	case high == api.Infinite:
		return "{" + strconv.Itoa(low) + ",}"
	}
	return "{" + strconv.Itoa(low) + "," + strconv.Itoa(high) + "}"
}

func writeSet(b *strings.Builder, set api.Set) {
	switch n := size(set); {
	case n == 256:
		b.WriteByte('.')
	case n == 1:
		writeRows(b, set, signs)
	case n == 0:
		b.WriteString(`[^\x00-\xFF]`)
	case n <= 128:
		b.WriteByte('[')
		writeRows(b, set, classSigns)
		b.WriteByte(']')
	default:
		b.WriteString("[^")
		writeRows(b, rest(set), classSigns)
		b.WriteByte(']')
	}
}

// writeRows writes the bytes of a set, those that stand side by side as one row.
func writeRows(b *strings.Builder, set api.Set, marked string) {
	for from := 0; from < 256; from++ {
		if !has(set, from) {
			continue
		}
		to := from
		for to < 255 && has(set, to+1) {
			to++
		}
		writeByte(b, byte(from), marked)
		if to > from+1 {
			b.WriteByte('-')
		}
		if to > from {
			writeByte(b, byte(to), marked)
		}
		from = to
	}
}

// writeByte writes one, with a backslash ahead if it is one of those that are marked.
func writeByte(b *strings.Builder, c byte, marked string) {
	const sixteenths = "0123456789ABCDEF"
	switch {
	case c == '\n':
		b.WriteString(`\n`)
	case c == '\t':
		b.WriteString(`\t`)
	case c == '\r':
		b.WriteString(`\r`)
	case c < 32 || c > 126:
		b.WriteString(`\x`)
		b.WriteByte(sixteenths[c>>4])
		b.WriteByte(sixteenths[c&15])
	default:
		if strings.IndexByte(marked, c) >= 0 {
			b.WriteByte('\\')
		}
		b.WriteByte(c)
	}
}
