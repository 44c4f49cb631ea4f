package literal

import "dragnet/api"

// shift keeps one bit for each beginning of the pattern: is it what was read last? The lowest one is that of the first byte alone.
type shift struct {
	length int
	has    [256]uint64 // of each byte: where it stands in the pattern
}

func newShift(n needle) *shift {
	x := &shift{length: len(n.pattern)}
	for k := range x.length {
		for _, b := range n.forms(n.pattern[k]) {
			x.has[b] |= 1 << k
		}
	}
	return x
}

func (x *shift) look(s string, from int) int {
	whole := uint64(1) << (x.length - 1)
	var read uint64
	for at := from; at < len(s); at++ {
		read = (read<<1 | 1) & x.has[s[at]]
		if read&whole != 0 {
			return at + 1 - x.length
		}
	}
	return -1
}

// row is a bit for each byte of any pattern, the lowest first.
type row [api.MaxPattern / wordBits]uint64

func (r *row) set(k int) { r[k/wordBits] |= 1 << (k % wordBits) }

func (r *row) has(k int) bool { return r[k/wordBits]>>(k%wordBits)&1 != 0 }

// step is what shift does with its one word: what leaves a word at the top comes into the next one at the bottom.
func (r *row) step(has *row) {
	carry := uint64(1)
	for k, w := range r {
		r[k] = (w<<1 | carry) & has[k]
		carry = w >> (wordBits - 1)
	}
}

// wide is shift with several words.
type wide struct {
	length int
	has    [256]row
}

func newWide(n needle) *wide {
	x := &wide{length: len(n.pattern)}
	for k := range x.length {
		for _, b := range n.forms(n.pattern[k]) {
			x.has[b].set(k)
		}
	}
	return x
}

func (x *wide) look(s string, from int) int {
	var read row
	for at := from; at < len(s); at++ {
		read.step(&x.has[s[at]])
		if read.has(x.length - 1) {
			return at + 1 - x.length
		}
	}
	return -1
}
