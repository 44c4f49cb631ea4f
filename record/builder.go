package record

import (
	"strings"

	"dragnet/api"
	"dragnet/code"
)

// Builder is a payload that grows.
type Builder struct {
	stamps   []int
	ends     []int  // of each line's Text, in texts
	texts    []byte // one behind the other
	numbers  int    // how many bytes the lines' numbers have in the payload: without that of how many lines there are
	min, max int
}

// New makes an empty one.
func New() *Builder { return &Builder{} }

// Add lays a line down behind the others.
func (b *Builder) Add(l api.Line) api.Errno {
	if e := refuses(l); e != api.OK {
		return e
	}
	numbers := b.numbers + len(code.Int(l.Stamp-b.last())) + len(code.Uint(uint64(len(l.Text))))
	if size(b.Len()+1, numbers, len(b.texts)+len(l.Text)) > api.MaxRaw {
		return api.ErrMost
	}
	b.numbers = numbers
	b.widen(l.Stamp)
	b.stamps = append(b.stamps, l.Stamp)
	b.texts = append(b.texts, l.Text...)
	b.ends = append(b.ends, len(b.texts))
	return api.OK
}

// size is that of a payload, by how many lines it has, and how many bytes of their numbers and Texts.
func size(count, numbers, texts int) int {
	return len(code.Uint(uint64(count))) + numbers + texts
}

// last is the stamp from which that of the next line is counted.
func (b *Builder) last() int {
	if b.Len() == 0 {
		return 0
	}
	return b.stamps[b.Len()-1]
}

func (b *Builder) widen(stamp int) {
	if b.Len() == 0 {
		b.min, b.max = stamp, stamp
	}
	b.min, b.max = min(b.min, stamp), max(b.max, stamp)
}

// Len is how many there are, Size how many bytes the payload has, Bytes is it; Min and Max are stamps.
func (b *Builder) Len() int { return len(b.stamps) }

func (b *Builder) Size() int { return size(b.Len(), b.numbers, len(b.texts)) }

func (b *Builder) Bytes() string {
	var out strings.Builder
	out.Grow(b.Size())
	out.WriteString(code.Uint(uint64(b.Len())))
	last := 0
	for _, stamp := range b.stamps {
		out.WriteString(code.Int(stamp - last))
		last = stamp
	}
	for n := range b.ends {
		out.WriteString(code.Uint(uint64(len(b.text(n)))))
	}
	out.Write(b.texts)
	return out.String()
}

func (b *Builder) Min() int { return b.min }

func (b *Builder) Max() int { return b.max }

// Line is one of them.
func (b *Builder) Line(n int) (api.Line, bool) {
	if n < 0 || n >= b.Len() {
		return api.Line{}, false
	}
	return api.Line{Stamp: b.stamps[n], Text: string(b.text(n))}, true
}

// text cuts out the Text of a line, without room behind it: there the next one stands.
func (b *Builder) text(n int) []byte {
	from := 0
	if n > 0 {
		from = b.ends[n-1]
	}
	return b.texts[from:b.ends[n]:b.ends[n]]
}
