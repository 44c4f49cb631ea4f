package sums

import "math/bits"

const (
	wide1 = 0x9E3779B185EBCA87
	wide2 = 0xC2B2AE3D27D4EB4F
	wide3 = 0x165667B19E3779F9
	wide4 = 0x85EBCA77C2B2AE63
	wide5 = 0x27D4EB2F165667C5
)

// wideRow is how many bytes change the four numbers of an XX64 at a time.
const wideRow = 32

// XX64 is a quick sum of 64 bits under a seed.
func XX64(seed uint64, s string) uint64 {
	if len(s) < wideRow {
		return last64(seed+wide5, len(s), s)
	}
	four := begin64(seed)
	rest := eachRow(s, wideRow, four.take)
	return last64(four.merged(), len(s), rest)
}

// four64 is the four numbers that the rows of an XX64 change.
type four64 [4]uint64

func begin64(seed uint64) four64 {
	return four64{seed + wide1 + wide2, seed + wide2, seed, seed - wide1}
}

// take lets one row change the four.
func (f *four64) take(row string) {
	for i := range f {
		f[i] = round(f[i], word64(row[8*i:]))
	}
}

// merged is one number of the four.
func (f *four64) merged() uint64 {
	h := bits.RotateLeft64(f[0], 1) + bits.RotateLeft64(f[1], 7) +
		bits.RotateLeft64(f[2], 12) + bits.RotateLeft64(f[3], 18)
	for _, n := range f {
		h = (h^round(0, n))*wide1 + wide4
	}
	return h
}

// round is the chapter's ROUND.
func round(a, word uint64) uint64 {
	return bits.RotateLeft64(a+word*wide2, 31) * wide1
}

// last64 adds to h the number of all bytes and those of them that fill no row, and stirs.
func last64(h uint64, length int, rest string) uint64 {
	h += uint64(length)
	for ; len(rest) >= 8; rest = rest[8:] {
		h = bits.RotateLeft64(h^round(0, word64(rest)), 27)*wide1 + wide4
	}
	if len(rest) >= 4 {
		h = bits.RotateLeft64(h^uint64(word32(rest))*wide1, 23)*wide2 + wide3
		rest = rest[4:]
	}
	for i := range len(rest) {
		h = bits.RotateLeft64(h^uint64(rest[i])*wide5, 11) * wide1
	}
	h = (h ^ h>>33) * wide2
	h = (h ^ h>>29) * wide3
	return h ^ h>>32
}
