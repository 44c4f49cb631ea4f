package swar

// Index is where a byte stands first, from a place on; -1: nowhere. Where b is 0 it may come upon the noughts behind the end: they stand behind all that is there, so b is then nowhere.
func Index(s string, b byte, from int) int {
	want := Spread(b)
	for at := max(from, 0); at < len(s); at += size {
		if k := First(Equal(Load(s, at), want)); k < min(size, len(s)-at) {
			return at + k
		}
	}
	return -1
}

// Last is where a byte stands last ahead of a place; -1: nowhere. It looks from the end on, so the noughts are those ahead of the place 0.
func Last(s string, b byte, ahead int) int {
	want := Spread(b)
	for end := min(ahead, len(s)); end > 0; end -= size {
		if k := final(Equal(Load(s, end-size), want)); k >= max(0, size-end) {
			return end - size + k
		}
	}
	return -1
}

// IndexOf is where one of some bytes stands first, from a place on; -1: nowhere.
func IndexOf(s string, from int, set ...byte) int {
	has := setOf(set)
	for at := max(from, 0); at < len(s); at += size {
		count := min(size, len(s)-at)
		if k := has.first(Load(s, at), count); k < count {
			return at + k
		}
	}
	return -1
}

// byteSet is some bytes: bit b%64 of the word b/64 for the byte b.
type byteSet [4]uint64

func setOf(list []byte) byteSet {
	var set byteSet
	for _, b := range list {
		set[b/64] |= 1 << (b % 64)
	}
	return set
}

// first is which of the word's first bytes is in the set first; count, if none is.
func (set *byteSet) first(w uint64, count int) int {
	for k := range count {
		b := byte(w >> (8 * k))
		if set[b/64]>>(b%64)&1 != 0 {
			return k
		}
	}
	return count
}

// Count is how often a byte stands there.
func Count(s string, b byte) int {
	want, sum := Spread(b), 0
	at := 0
	for ; at <= len(s)-size; at += size {
		sum += Ones(Equal(Load(s, at), want))
	}
	// Those behind the end are shifted out: they are noughts, and b may be 0.
	behind := size - (len(s) - at)
	return sum + Ones(Equal(Load(s, at), want)<<(8*behind))
}

// Pair is the first place, from one on, with a byte there and another one so many behind it; -1: none.
func Pair(s string, first, last byte, gap, from int) int {
	if gap < 0 {
		return -1
	}
	wantFirst, wantLast := Spread(first), Spread(last)
	// Held against this end, a place and the gap together stay below len(s) and never go round.
	end := len(s) - gap
	for at := max(from, 0); at < end; at += size {
		both := Equal(Load(s, at), wantFirst) & Equal(Load(s, at+gap), wantLast)
		if k := First(both); k < min(size, end-at) {
			return at + k
		}
	}
	return -1
}
