package syntax

import (
	"math/bits"

	"dragnet/api"
)

// span is the bytes from one to another.
func span(from, to byte) api.Set {
	var set api.Set
	for b := int(from); b <= int(to); b++ {
		set[b/64] |= 1 << (b % 64)
	}
	return set
}

// union is the bytes that one of some sets has.
func union(sets ...api.Set) api.Set {
	var all api.Set
	for _, set := range sets {
		for k, word := range set {
			all[k] |= word
		}
	}
	return all
}

// rest is the bytes that a set has not.
func rest(set api.Set) api.Set {
	for k := range set {
		set[k] = ^set[k]
	}
	return set
}

func has(set api.Set, b int) bool { return set[b/64]>>(b%64)&1 == 1 }

func size(set api.Set) int {
	n := 0
	for _, word := range set {
		n += bits.OnesCount64(word)
	}
	return n
}

// bothCases is a set with the other case of its letters: all letters stand in one word, the small ones 32 bits above the capitals.
func bothCases(set api.Set) api.Set {
	capitals := span('A', 'Z')[1]
	set[1] |= (set[1]&capitals)<<32 | (set[1]>>32)&capitals
	return set
}
