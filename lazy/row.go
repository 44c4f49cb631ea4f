package lazy

import (
	"math/bits"

	"dragnet/api"
)

const wordBits = 64

// row is some positions: a bit for each that any regex may have, the lowest first. As an array it can be looked up in a map.
type row [(api.MaxPositions + wordBits - 1) / wordBits]uint64

func rowOf(positions []int) row {
	var r row
	for _, p := range positions {
		r.put(p)
	}
	return r
}

func (r *row) put(p int) { r[p/wordBits] |= 1 << (p % wordBits) }

func (r *row) add(other *row) {
	for k, word := range other {
		r[k] |= word
	}
}

func (r *row) keep(other *row) {
	for k, word := range other {
		r[k] &= word
	}
}

// meets: is a position in both?
func (r *row) meets(other *row) bool {
	for k, word := range other {
		if r[k]&word != 0 {
			return true
		}
	}
	return false
}

// addFollowing puts in all that may come behind one of some positions.
func (r *row) addFollowing(some *row, follow []row) {
	for k, word := range some {
		for ; word != 0; word &= word - 1 {
			r.add(&follow[k*wordBits+bits.TrailingZeros64(word)])
		}
	}
}
