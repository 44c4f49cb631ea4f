package lz4

import (
	"math/rand"
	"slices"
	"strings"

	"dragnet/api"
)

// The plain forms here do what the chapter's words say, one by one, without regard to time; the calls are held against them.

// plainStep is one number that is added to a count, and whether a length byte must follow it.
type plainStep struct {
	add     int
	follows bool
}

// plainSteps are those of a count that begins with a half of a token: all of them, or as far as there are bytes.
func plainSteps(half, base int, rest string) []plainStep {
	steps := []plainStep{{half + base, half == 15}}
	for i := 0; steps[len(steps)-1].follows && i < len(rest); i++ {
		steps = append(steps, plainStep{int(rest[i]), rest[i] == 255})
	}
	return steps
}

// plainCount adds the steps up: the count, how many length bytes it took, and an error.
func plainCount(steps []plainStep, said, most int) (int, int, api.Errno) {
	count := 0
	for _, step := range steps {
		count += step.add
		if said+count > most {
			return 0, 0, api.ErrMost
		}
	}
	if steps[len(steps)-1].follows {
		return 0, 0, api.ErrShort
	}
	return count, len(steps) - 1, api.OK
}

// plainSequence is a sequence and the place of its token.
type plainSequence struct {
	at int
	x  api.Sequence
}

// plainPlace is where an error shows, which is told of the token's place or of the end.
func plainPlace(e api.Errno, token int, b string) int {
	if e == api.ErrMost {
		return token
	}
	return len(b)
}

// plainSequences are those of b ahead of its first error, and that error.
func plainSequences(ahead int, b string, most int) ([]plainSequence, api.Errno, int) {
	var all []plainSequence
	said := 0
	for at := 0; ; {
		if at == len(b) {
			return all, api.ErrShort, len(b)
		}
		token, next := at, plainSequence{at: at}
		count, bytes, e := plainCount(plainSteps(int(b[token])/16, 0, b[token+1:]), said, most)
		if e != api.OK {
			return all, e, plainPlace(e, token, b)
		}
		at += 1 + bytes
		if len(b)-at < count {
			return all, api.ErrShort, len(b)
		}
		next.x.Literals = b[at : at+count]
		at += count
		said += count
		if at == len(b) {
			return append(all, next), api.OK, 0
		}
		if at == len(b)-1 {
			return all, api.ErrShort, len(b)
		}
		next.x.Offset = int(b[at]) + 256*int(b[at+1])
		if next.x.Offset == 0 || next.x.Offset > ahead+said {
			return all, api.ErrOffset, at
		}
		at += 2
		count, bytes, e = plainCount(plainSteps(int(b[token])%16, 4, b[at:]), said, most)
		if e != api.OK {
			return all, e, plainPlace(e, token, b)
		}
		at += bytes
		next.x.Length = count
		said += count
		all = append(all, next)
	}
}

// plainSays is what sequences say, behind what stood ahead of them.
func plainSays(before string, all []plainSequence) string {
	text := []byte(before)
	for _, one := range all {
		text = append(text, one.x.Literals...)
		for range one.x.Length {
			text = append(text, text[len(text)-one.x.Offset])
		}
	}
	return string(text[len(before):])
}

func plainExpand(before, b string, most int) (string, api.Errno, int) {
	if most < 0 {
		return "", api.ErrArg, 0
	}
	all, e, at := plainSequences(len(before), b, most)
	if e != api.OK {
		return "", e, at
	}
	return plainSays(before, all), api.OK, 0
}

func plainLengthBytes(count int) string {
	if count < 15 {
		return ""
	}
	return strings.Repeat("\xff", (count-15)/255) + string([]byte{byte((count - 15) % 255)})
}

func plainWritten(all []api.Sequence) string {
	var out strings.Builder
	for _, x := range all {
		beyond := max(0, x.Length-4)
		out.WriteByte(byte(min(15, len(x.Literals))*16 + min(15, beyond)))
		out.WriteString(plainLengthBytes(len(x.Literals)) + x.Literals)
		if x.Length > 0 {
			out.WriteString(string([]byte{byte(x.Offset % 256), byte(x.Offset / 256)}) + plainLengthBytes(beyond))
		}
	}
	return out.String()
}

func plainMayStand(s string, p, d, m int) bool {
	if m < 4 || d < 1 || d > 65535 || d > p || p > len(s)-12 || p+m > len(s)-5 {
		return false
	}
	for k := range m {
		if s[p+k] != s[p+k-d] {
			return false
		}
	}
	return true
}

func plainAgrees(s string, p, c int) int {
	m := 0
	for s[p+m] == s[c+m] && p+m < len(s)-5 {
		m++
	}
	return m
}

// plainCandidates are those of p, the greatest first.
func plainCandidates(s string, p int) []int {
	var all []int
	for c := p - 1; c >= 0 && p-c <= 65535; c-- {
		if s[c:c+4] == s[p:p+4] {
			all = append(all, c)
		}
	}
	return all
}

func plainGreedy(s string, most int) string {
	var all []api.Sequence
	from := 0
	for p := 0; p <= len(s)-12; {
		candidates := plainCandidates(s, p)
		if len(candidates) == 0 {
			p++
			continue
		}
		candidates = candidates[:min(most, len(candidates))]
		best := slices.MaxFunc(candidates, func(a, b int) int { return plainAgrees(s, p, a) - plainAgrees(s, p, b) })
		all = append(all, api.Sequence{Literals: s[from:p], Offset: p - best, Length: plainAgrees(s, p, best)})
		p += plainAgrees(s, p, best)
		from = p
	}
	return plainWritten(append(all, api.Sequence{Literals: s[from:]}))
}

// plainBetter holds two packings against each other by the words of level 3.
func plainBetter(a, b []api.Sequence) bool {
	if x, y := len(plainWritten(a)), len(plainWritten(b)); x != y {
		return x < y
	}
	for i := range min(len(a), len(b)) {
		switch {
		case len(a[i].Literals) != len(b[i].Literals):
			return len(a[i].Literals) < len(b[i].Literals)
		case a[i].Length != b[i].Length:
			return a[i].Length > b[i].Length
		case a[i].Offset != b[i].Offset:
			return a[i].Offset < b[i].Offset
		}
	}
	return false
}

// plainShortest goes through each packing of s from the place p on, whatever its length, and keeps the best of all.
func plainShortest(s string, p int, ahead []api.Sequence, best *[]api.Sequence) {
	if all := append(slices.Clone(ahead), api.Sequence{Literals: s[p:]}); *best == nil || plainBetter(all, *best) {
		*best = all
	}
	for q := p; q <= len(s)-12; q++ {
		for d := 1; d <= q; d++ {
			for m := 4; plainMayStand(s, q, d, m); m++ {
				plainShortest(s, q+m, append(slices.Clone(ahead), api.Sequence{Literals: s[p:q], Offset: d, Length: m}), best)
			}
		}
	}
}

// plainCopies are those that may stand at q, whatever is done ahead of it.
func plainCopies(s string, q int) []api.Sequence {
	var all []api.Sequence
	for d := 1; d <= q; d++ {
		for m := 4; plainMayStand(s, q, d, m); m++ {
			all = append(all, api.Sequence{Offset: d, Length: m})
		}
	}
	return all
}

// plainBestByParts is the same for texts of which there are too many packings: what goes on from a place is packed best by itself.
func plainBestByParts(s string) string {
	best := make([][]api.Sequence, len(s)+1)
	copies := make([][]api.Sequence, len(s)+1)
	for p := len(s); p >= 0; p-- {
		copies[p] = plainCopies(s, p)
		best[p] = []api.Sequence{{Literals: s[p:]}}
		for q := p; q <= len(s)-12; q++ {
			for _, x := range copies[q] {
				x.Literals = s[p:q]
				if all := append([]api.Sequence{x}, best[q+x.Length]...); plainBetter(all, best[p]) {
					best[p] = all
				}
			}
		}
	}
	return plainWritten(best[0])
}

// plainLeast is the length of the shortest packing of s from each place on: for longer texts, of which there are too many packings.
func plainLeast(s string) int {
	least := make([]int, len(s)+1)
	for p := len(s); p >= 0; p-- {
		least[p] = 1 + len(plainLengthBytes(len(s)-p)) + len(s) - p
		for q := p; q <= len(s)-12; q++ {
			for _, c := range plainCandidates(s, q) {
				for m := 4; m <= plainAgrees(s, q, c); m++ {
					least[p] = min(least[p], 1+len(plainLengthBytes(q-p))+q-p+2+len(plainLengthBytes(m-4))+least[q+m])
				}
			}
		}
	}
	return least[0]
}

func anyText(source *rand.Rand, letters string, n int) string {
	b := make([]byte, n)
	for i := range b {
		b[i] = letters[source.Intn(len(letters))]
	}
	return string(b)
}

// patched is made of pieces of itself and of new bytes: so it has copies of many lengths and offsets.
func patched(source *rand.Rand, letters string, n int) string {
	s := anyText(source, letters, 1+source.Intn(20))
	for len(s) < n {
		if source.Intn(3) == 0 {
			s += anyText(source, letters, 1+source.Intn(20))
			continue
		}
		from := source.Intn(len(s))
		s += s[from:min(len(s), from+1+source.Intn(40))]
	}
	return s[:n]
}

// everyByte is all bytes, so far apart that no four of them stand twice within n.
func everyByte(n int) string {
	var out strings.Builder
	for i := 0; out.Len() < n; i++ {
		out.WriteString(string([]byte{byte(i), byte(i >> 8), byte(i>>16) + 1, byte(i*7) | 128}))
	}
	return out.String()[:n]
}

// texts are short ones, of few letters and of many, at the edges of each count, and of one byte.
func texts() []string {
	source := rand.New(rand.NewSource(4))
	var out []string
	for n := range 40 {
		out = append(out, strings.Repeat("a", n), strings.Repeat("\x00", n), everyByte(n))
		for range 6 {
			out = append(out, anyText(source, "ab", n), anyText(source, "abc", n), patched(source, "abcdef", n))
		}
	}
	for _, n := range []int{268, 269, 270, 271, 272, 273, 274, 275, 276, 280, 290, 291, 524, 525, 526, 527, 530, 535, 545, 550, 1000, 4096} {
		out = append(out, strings.Repeat("a", n), everyByte(n), anyText(source, "ab", n), patched(source, "abcdefghijkl\x00\xff", n))
	}
	return out
}
