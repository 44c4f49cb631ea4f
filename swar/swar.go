// Package swar: kernels that look at eight bytes at a time: layer 1: see shared/doc/01-swar.md.
package swar

import "math/bits"

// size is how many bytes a word has.
const size = 8

const (
	lowest = 0x0101010101010101 // the lowest bit of each byte
	marks  = 0x8080808080808080 // the highest one
)

// Load is the eight bytes from a place on, the lowest first; beyond the ends there are noughts.
func Load(s string, at int) uint64 {
	if at >= 0 && at <= len(s)-size {
		return whole(s[at:])
	}
	return edge(s, at)
}

// whole takes all eight bytes in one expression: so the compiler makes a single load of it.
func whole(s string) uint64 {
	_ = s[7]
	return uint64(s[0]) | uint64(s[1])<<8 | uint64(s[2])<<16 | uint64(s[3])<<24 |
		uint64(s[4])<<32 | uint64(s[5])<<40 | uint64(s[6])<<48 | uint64(s[7])<<56
}

// edge is Load where some of the eight places are none of s. It holds at against the ends and never adds to it: near the ends of int a sum would go round.
func edge(s string, at int) uint64 {
	switch {
	case at <= -size || at >= len(s):
		return 0
	case at < 0:
		return Load(s, 0) << (8 * -at)
	}
	return tail(s[at:])
}

// tail is the word of a text that has fewer than eight bytes.
func tail(s string) uint64 {
	var w uint64
	switch len(s) {
	case 7:
		w = uint64(s[6])
		fallthrough
	case 6:
		w = w<<8 | uint64(s[5])
		fallthrough
	case 5:
		w = w<<8 | uint64(s[4])
		fallthrough
	case 4:
		w = w<<8 | uint64(s[3])
		fallthrough
	case 3:
		w = w<<8 | uint64(s[2])
		fallthrough
	case 2:
		w = w<<8 | uint64(s[1])
		fallthrough
	case 1:
		w = w<<8 | uint64(s[0])
	}
	return w
}

// Spread is a byte eight times.
func Spread(b byte) uint64 { return uint64(b) * lowest }

// Zeros marks (by the highest bit of each) the bytes that are 0. It adds below the marks alone: so no byte carries into the next one.
func Zeros(w uint64) uint64 {
	filled := (w &^ marks) + ^uint64(marks)
	return ^(filled | w) & marks
}

// Equal marks the bytes in which a and b agree.
func Equal(a, b uint64) uint64 { return Zeros(a ^ b) }

// Below marks the bytes that are below b. It subtracts with the mark set in each byte of w and in none of b's: so no byte borrows from the next one. What the seven lower bits say holds where the highest bits agree.
func Below(w uint64, b byte) uint64 {
	limit := Spread(b)
	notLess := (w | marks) - (limit &^ marks)
	return (^w&limit | ^(w^limit)&^notLess) & marks
}

// Lower makes capitals small: a quarter of a mark is 32, and no capital has that bit.
func Lower(w uint64) uint64 {
	capitals := Below(w, 'Z'+1) &^ Below(w, 'A')
	return w | capitals>>2
}

// First is which byte is marked first; 8: none.
func First(m uint64) int { return bits.TrailingZeros64(m&marks) / 8 }

// Ones is how many bytes are marked.
func Ones(m uint64) int { return bits.OnesCount64(m & marks) }

// final is which byte is marked last; -1: none.
func final(m uint64) int { return bits.Len64(m&marks)/8 - 1 }
