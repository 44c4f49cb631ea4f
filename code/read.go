package code

import (
	"strings"

	"dragnet/api"
)

// Reader reads them one behind the other.
type Reader struct {
	text string
	at   int
}

// Read begins at the front of some bytes.
func Read(b string) *Reader { return &Reader{text: b} }

// attempt lets read go on as far as it likes: if it refuses, the place is put back to where it was.
func attempt[T any](r *Reader, read func() (T, api.Errno)) (got T, e api.Errno) {
	from := r.at
	defer func() {
		if e != api.OK {
			r.at = from
		}
	}()
	return read()
}

// next reads one byte.
func (r *Reader) next() (byte, api.Errno) {
	if r.Left() == 0 {
		return 0, api.ErrShort
	}
	b := r.text[r.at]
	r.at++
	return b, api.OK
}

// Uint, Int, Text, Fixed and Take read one: refused, the place stays.
func (r *Reader) Uint() (uint64, api.Errno) { return attempt(r, r.groups) }

// groups reads a number. It ends at the tenth byte: one that is not refused is the last one.
func (r *Reader) groups() (uint64, api.Errno) {
	var n uint64
	for i := 0; ; i++ {
		b, e := r.next()
		switch {
		case e != api.OK:
			return 0, e
		case i == mostGroups-1 && b > 1:
			return 0, api.ErrOver
		case i > 0 && b == 0:
			return 0, api.ErrForm
		}
		n |= uint64(b&^follows) << (groupBits * i)
		if b < follows {
			return n, api.OK
		}
	}
}

func (r *Reader) Int() (int, api.Errno) {
	n, e := r.Uint()
	half := int(n >> 1)
	if n&1 == 1 {
		return -half - 1, e
	}
	return half, e
}

func (r *Reader) Text() (string, api.Errno) {
	return attempt(r, func() (string, api.Errno) {
		n, e := r.Uint()
		if e != api.OK {
			return "", e
		}
		if n > uint64(r.Left()) { // ahead of int(n), which could go round
			return "", api.ErrShort
		}
		return r.Take(int(n))
	})
}

func (r *Reader) Fixed(width int) (uint64, api.Errno) {
	if width < 1 || width > mostWidth {
		return 0, api.ErrArg
	}
	return attempt(r, func() (uint64, api.Errno) {
		var n uint64
		for i := range width {
			b, e := r.next()
			if e != api.OK {
				return 0, e
			}
			n |= uint64(b) << (8 * i)
		}
		return n, api.OK
	})
}

// Take hands out a copy: so what was taken does not keep all bytes of the Reader.
func (r *Reader) Take(n int) (string, api.Errno) {
	if n < 0 {
		return "", api.ErrArg
	}
	if n > r.Left() {
		return "", api.ErrShort
	}
	r.at += n
	return strings.Clone(r.text[r.at-n : r.at]), api.OK
}

// At is the place, Left how many bytes follow, End whether none does.
func (r *Reader) At() int { return r.at }

func (r *Reader) Left() int { return len(r.text) - r.at }

func (r *Reader) End() api.Errno {
	if r.Left() > 0 {
		return api.ErrRest
	}
	return api.OK
}
