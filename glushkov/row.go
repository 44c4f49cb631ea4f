package glushkov

import (
	"iter"
	"math/bits"

	"dragnet/api"
)

const wordBits = 64

// row is a set of positions: a bit for each that any regex may have, the lowest first.
type row [(api.MaxPositions + wordBits - 1) / wordBits]uint64

func (r *row) put(p int) { r[p/wordBits] |= 1 << (p % wordBits) }

func (r *row) add(other *row) {
	for k, word := range other {
		r[k] |= word
	}
}

func (r *row) keep(other *row) {
	for k, word := range other {
		r[k] &= word
	}
}

func (r *row) drop(other *row) {
	for k, word := range other {
		r[k] &^= word
	}
}

func (r *row) isEmpty() bool { return *r == row{} }

// meets: is a position in both?
func (r *row) meets(other *row) bool {
	for k, word := range other {
		if r[k]&word != 0 {
			return true
		}
	}
	return false
}

// all goes over the positions, rising.
func (r *row) all() iter.Seq[int] {
	return func(yield func(int) bool) {
		for k, word := range r {
			for ; word != 0; word &= word - 1 {
				if !yield(k*wordBits + bits.TrailingZeros64(word)) {
					return
				}
			}
		}
	}
}

func (r *row) list() []int {
	var list []int
	for p := range r.all() {
		list = append(list, p)
	}
	return list
}
