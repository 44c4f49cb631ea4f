package literal

// horspool looks at the byte under the pattern's end: it says how far the pattern may go on at least.
type horspool struct {
	needle
	last [2]byte  // the forms of the pattern's last byte
	jump [256]int // from each byte to where the pattern has it next, under its end
}

func newHorspool(n needle) *horspool {
	last := len(n.pattern) - 1
	x := &horspool{needle: n, last: n.forms(n.pattern[last])}
	for b := range x.jump {
		x.jump[b] = last + 1
	}
	// Where a byte is there several times, the last of them holds: a longer jump might pass over a hit.
	for k := range last {
		for _, b := range n.forms(n.pattern[k]) {
			x.jump[b] = last - k
		}
	}
	return x
}

func (x *horspool) look(s string, from int) int {
	length := len(x.pattern)
	for end := from + length; end <= len(s); {
		b := s[end-1]
		if (b == x.last[0] || b == x.last[1]) && x.is(s[end-length:end]) {
			return end - length
		}
		end += x.jump[b]
	}
	return -1
}
