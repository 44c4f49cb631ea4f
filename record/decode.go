package record

import (
	"iter"
	"strings"

	"dragnet/api"
	"dragnet/code"
)

// Decode reads a payload; with an error: the place.
func Decode(b string) ([]api.Line, api.Errno, int) {
	if len(b) > api.MaxRaw {
		return nil, api.ErrMost, api.MaxRaw
	}
	r := code.Read(b)
	count, e := r.Uint()
	if e != api.OK {
		return nil, e, 0
	}
	stamps, e, at := column(r, count, nextStamp(r))
	if e != api.OK {
		return nil, e, at
	}
	lengths, e, at := column(r, count, nextLength(r))
	if e != api.OK {
		return nil, e, at
	}
	return lines(r, stamps, lengths)
}

// column reads so many numbers. However many a payload says that there are: each has a byte at least, so it ends where the bytes do.
func column(r *code.Reader, count uint64, next func() (int, api.Errno)) ([]int, api.Errno, int) {
	var list []int
	for range count {
		at := r.At()
		n, e := next()
		if e != api.OK {
			return nil, e, at
		}
		list = append(list, n)
	}
	return list, api.OK, 0
}

// nextStamp reads stamps: each is counted from the one ahead of it. What is read is held against what is left to either side, as a sum could go round.
func nextStamp(r *code.Reader) func() (int, api.Errno) {
	last := 0
	return func() (int, api.Errno) {
		step, e := r.Int()
		if e != api.OK {
			return 0, e
		}
		if step < -last || step > api.MaxStamp-last {
			return 0, api.ErrStamp
		}
		last += step
		return last, api.OK
	}
}

func nextLength(r *code.Reader) func() (int, api.Errno) {
	return func() (int, api.Errno) {
		n, e := r.Uint()
		if e != api.OK {
			return 0, e
		}
		if n > api.MaxLine {
			return 0, api.ErrLine
		}
		return int(n), api.OK
	}
}

// lines reads the Texts, behind which nothing may stand.
func lines(r *code.Reader, stamps, lengths []int) ([]api.Line, api.Errno, int) {
	list := make([]api.Line, 0, len(stamps))
	for n, stamp := range stamps {
		at := r.At()
		text, e := r.Take(lengths[n])
		if e != api.OK {
			return nil, e, at + r.Left()
		}
		if feed := strings.IndexByte(text, '\n'); feed >= 0 {
			return nil, api.ErrLine, at + feed
		}
		list = append(list, api.Line{Stamp: stamp, Text: text})
	}
	if e := r.End(); e != api.OK {
		return nil, e, r.At()
	}
	return list, api.OK, 0
}

// All goes over the lines of a payload that is right.
func All(b string) iter.Seq2[int, api.Line] {
	return func(yield func(int, api.Line) bool) {
		list, _, _ := Decode(b) // refused: none
		for n, l := range list {
			if !yield(n, l) {
				return
			}
		}
	}
}
