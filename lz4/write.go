package lz4

import "dragnet/api"

// match is a copy: where it stands, and what it takes.
type match struct {
	at, offset, count int
}

// Compress packs a text at a level.
func Compress(s string, level int) (string, api.Errno) {
	if level == api.MaxLevel && len(s) > api.MaxBest {
		return "", api.ErrLong
	}
	switch level {
	case 0:
		return written(s, nil), api.OK
	case 1:
		return written(s, greedy(s, 1)), api.OK
	case 2:
		return written(s, greedy(s, 32)), api.OK
	case api.MaxLevel:
		return written(s, shortest(s)), api.OK
	}
	return "", api.ErrArg
}

// written is the packing of s with these copies; what none takes are literals.
func written(s string, copies []match) string {
	var out []byte
	from := 0
	for _, c := range copies {
		beyond := c.count - leastCopy
		out = literals(out, s[from:c.at], beyond)
		out = append(out, byte(c.offset), byte(c.offset>>8))
		out = lengthBytes(out, beyond)
		from = c.at + c.count
	}
	return string(literals(out, s[from:], 0))
}

// literals begins a sequence, whose copy counts so many beyond the shortest.
func literals(out []byte, plain string, beyond int) []byte {
	out = append(out, byte(min(len(plain), half)<<4|min(beyond, half)))
	out = lengthBytes(out, len(plain))
	return append(out, plain...)
}

// lengthBytes adds what a half of the token leaves of a count.
func lengthBytes(out []byte, count int) []byte {
	if count < half {
		return out
	}
	left := count - half
	for ; left >= more; left -= more {
		out = append(out, more)
	}
	return append(out, byte(left))
}

// lengthSize is how many bytes lengthBytes adds.
func lengthSize(count int) int {
	if count < half {
		return 0
	}
	return (count-half)/more + 1
}
