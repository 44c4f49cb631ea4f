package swar

import (
	"cmp"
	"iter"
	"math/bits"
	"strings"
)

// Fold makes capitals small.
func Fold(s string) string {
	var out strings.Builder
	out.Grow(len(s))
	for at := 0; at < len(s); at += size {
		small := split(Lower(Load(s, at)))
		out.Write(small[:min(size, len(s)-at)])
	}
	return out.String()
}

// split is the word's bytes, byte 0 first.
func split(w uint64) [size]byte {
	return [size]byte{
		byte(w), byte(w >> 8), byte(w >> 16), byte(w >> 24),
		byte(w >> 32), byte(w >> 40), byte(w >> 48), byte(w >> 56),
	}
}

// SameFold: does Fold make the same text of both?
func SameFold(a, b string) bool {
	if len(a) != len(b) {
		return false
	}
	for at := 0; at < len(a); at += size {
		if Lower(Load(a, at)) != Lower(Load(b, at)) {
			return false
		}
	}
	return true
}

// Compare is -1, 0 or 1, as a comes ahead of b, is b, or comes behind it.
func Compare(a, b string) int {
	k := Common(a, b)
	if k == len(a) || k == len(b) {
		return cmp.Compare(len(a), len(b))
	}
	return cmp.Compare(a[k], b[k])
}

// Common is how long the beginning is that both have. It may see them differ behind the end of the shorter one: that is no byte of it.
func Common(a, b string) int {
	end := min(len(a), len(b))
	for at := 0; at < end; at += size {
		if differ := Load(a, at) ^ Load(b, at); differ != 0 {
			return min(at+bits.TrailingZeros64(differ)/8, end)
		}
	}
	return end
}

// Lines goes over the lines of a text: the place and the line.
func Lines(s string) iter.Seq2[int, string] {
	return func(yield func(int, string) bool) {
		for at := 0; at < len(s); {
			end := Index(s, '\n', at)
			if end < 0 {
				end = len(s)
			}
			if !yield(at, s[at:end]) {
				return
			}
			at = end + 1
		}
	}
}
