package sums

import "math/bits"

const (
	small1 = 0x9E3779B1
	small2 = 0x85EBCA77
	small3 = 0xC2B2AE3D
	small4 = 0x27D4EB2F
	small5 = 0x165667B1
)

// smallRow is how many bytes change the four numbers of an XX32 at a time.
const smallRow = 16

// XX32 is a quick sum of 32 bits under a seed.
func XX32(seed uint32, s string) uint32 {
	if len(s) < smallRow {
		return last32(seed+small5, len(s), s)
	}
	four := begin32(seed)
	rest := eachRow(s, smallRow, four.take)
	return last32(four.merged(), len(s), rest)
}

// four32 is the four numbers that the rows of an XX32 change.
type four32 [4]uint32

func begin32(seed uint32) four32 {
	return four32{seed + small1 + small2, seed + small2, seed, seed - small1}
}

// take lets one row change the four.
func (f *four32) take(row string) {
	for i := range f {
		f[i] = bits.RotateLeft32(f[i]+word32(row[4*i:])*small2, 13) * small1
	}
}

// merged is one number of the four.
func (f *four32) merged() uint32 {
	return bits.RotateLeft32(f[0], 1) + bits.RotateLeft32(f[1], 7) +
		bits.RotateLeft32(f[2], 12) + bits.RotateLeft32(f[3], 18)
}

// last32 adds to h the number of all bytes and those of them that fill no row, and stirs.
func last32(h uint32, length int, rest string) uint32 {
	h += uint32(length)
	for ; len(rest) >= 4; rest = rest[4:] {
		h = bits.RotateLeft32(h+word32(rest)*small3, 17) * small4
	}
	for i := range len(rest) {
		h = bits.RotateLeft32(h+uint32(rest[i])*small5, 11) * small1
	}
	h = (h ^ h>>15) * small2
	h = (h ^ h>>13) * small3
	return h ^ h>>16
}
