package object

import (
	"strings"

	"dragnet/api"
)

// plainText is the text of a value that is neither list nor object.
func plainText(v api.Value) string {
	switch v.Kind {
	case api.ValNull:
		return "null"
	case api.ValFalse:
		return "false"
	case api.ValTrue:
		return "true"
	}
	return v.Text
}

func writeValue(b *strings.Builder, v api.Value) {
	switch v.Kind {
	case api.ValText:
		writeText(b, v.Text)
	case api.ValList:
		b.WriteByte('[')
		writeKids(b, v)
		b.WriteByte(']')
	case api.ValObject:
		b.WriteByte('{')
		writeKids(b, v)
		b.WriteByte('}')
	default:
		b.WriteString(plainText(v))
	}
}

func writeKids(b *strings.Builder, v api.Value) {
	for i, kid := range v.Kids {
		if i > 0 {
			b.WriteByte(',')
		}
		if v.Kind == api.ValObject {
			writeText(b, v.Names[i])
			b.WriteByte(':')
		}
		writeValue(b, kid)
	}
}

func writeText(b *strings.Builder, s string) {
	b.WriteByte('"')
	for i := range len(s) {
		writeByte(b, s[i])
	}
	b.WriteByte('"')
}

func writeByte(b *strings.Builder, c byte) {
	switch byteSize(c) {
	case 1:
		b.WriteByte(c)
	case 2:
		b.WriteByte('\\')
		b.WriteByte(signs[strings.IndexByte(marked, c)])
	default:
		b.WriteString(`\u00`)
		b.WriteByte(sixteenths[c>>4])
		b.WriteByte(sixteenths[c&15])
	}
}

// byteSize is how many bytes a byte of a text is written as.
func byteSize(c byte) int {
	switch {
	case strings.IndexByte(marked, c) >= 0:
		return 2
	case c < ' ':
		return 6
	}
	return 1
}

// textSize is how many bytes a text is written as.
func textSize(s string) int {
	size := 2
	for i := range len(s) {
		size += byteSize(s[i])
	}
	return size
}

// ownSize is how many bytes a value is written as, its Kids left aside.
func ownSize(v api.Value) int {
	switch v.Kind {
	case api.ValText:
		return textSize(v.Text)
	case api.ValList, api.ValObject:
		size := 2 + max(len(v.Kids)-1, 0)
		for _, name := range v.Names {
			size += textSize(name) + 1
		}
		return size
	}
	return len(plainText(v))
}
