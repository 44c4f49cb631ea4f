package wrap

import (
	"math/rand"
	"strings"

	"dragnet/lz4"
)

const (
	emptyFrame = "\x04\x22\x4d\x18\x60\x40\x82\x00\x00\x00\x00"
	abcFrame   = "\x04\x22\x4d\x18\x60\x40\x82\x03\x00\x00\x80abc\x00\x00\x00\x00"
	bits4      = "\x60\x40" // the flags and the size of those
)

func low4(n int) string {
	return string([]byte{byte(n), byte(n >> 8), byte(n >> 16), byte(n >> 24)})
}

func low8(n uint64) string { return low4(int(n&(1<<32-1))) + low4(int(n>>32)) }

// head is one from the magic up to its check, which is right.
func head(bits string) string { return magic + bits + plainCheck(bits) }

func plain(s string) string { return low4(len(s)|1<<31) + s }

func packed(s string) string { return low4(len(s)) + s }

// summed is a block with its sum.
func summed(block string) string { return block + plainSum(block[4:]) }

func passedOver(first byte, s string) string {
	return string([]byte{first}) + "\x2a\x4d\x18" + low4(len(s)) + s
}

const noughts = "\x00\x00\x00\x00"

func anyText(source *rand.Rand, letters string, n int) string {
	b := make([]byte, n)
	for i := range b {
		b[i] = letters[source.Intn(len(letters))]
	}
	return string(b)
}

func anyBytes(source *rand.Rand, n int) string {
	b := make([]byte, n)
	source.Read(b)
	return string(b)
}

// anyPacked is some sequences of short copies; now and then they reach too far, or are not whole.
func anyPacked(source *rand.Rand, before int) string {
	out, said := "", before
	for range source.Intn(3) {
		literals := anyText(source, "abc", source.Intn(4))
		said += len(literals)
		far := 1 + source.Intn(said+1)
		if source.Intn(8) > 0 {
			far = min(far, max(1, said))
		}
		count := source.Intn(15)
		out += string([]byte{byte(len(literals)<<4 | count)}) + literals + string([]byte{byte(far), byte(far >> 8)})
		said += count + 4
	}
	literals := anyText(source, "xyz", source.Intn(4))
	out += string([]byte{byte(len(literals) << 4)}) + literals
	if source.Intn(12) == 0 {
		out += "\x90"
	}
	return out
}

// anyBlocks are some blocks, and what they say as far as they say something.
func anyBlocks(source *rand.Rand, flags byte) (string, string) {
	out, text := "", ""
	for range source.Intn(4) {
		if source.Intn(3) == 0 {
			s := anyText(source, "pqr", 1+source.Intn(5))
			out += withSum(plain(s), flags)
			text += s
			continue
		}
		before := text
		if flags&0x20 != 0 {
			before = ""
		}
		b := anyPacked(source, len(before))
		said, _, _ := lz4.ExpandOn(before, b, 65536)
		out += withSum(packed(b), flags)
		text += said
	}
	return out, text
}

func withSum(block string, flags byte) string {
	if flags&0x10 != 0 {
		return summed(block)
	}
	return block
}

// anyFrame is mostly a right one.
func anyFrame(source *rand.Rand) string {
	if source.Intn(5) == 0 {
		return passedOver(byte(0x50+source.Intn(16)), anyBytes(source, source.Intn(6)))
	}
	flags := byte(0x40 | source.Intn(16)<<2)
	blocks, text := anyBlocks(source, flags)
	bits := string([]byte{flags, byte(4+source.Intn(4)) << 4})
	if flags&0x08 != 0 {
		told := uint64(len(text))
		if source.Intn(4) == 0 {
			told += uint64(source.Intn(5)) - 2 // below 0 it goes round
		}
		bits += low8(told)
	}
	out := head(bits) + blocks + noughts
	if flags&0x04 != 0 {
		out += plainSum(text)
	}
	return out
}

// changed is a text with one byte another, gone, or more, or without its end.
func changed(source *rand.Rand, b string) string {
	if b == "" {
		return b
	}
	at := source.Intn(len(b))
	one := anyBytes(source, 1)
	switch source.Intn(4) {
	case 0:
		return b[:at] + one + b[at+1:]
	case 1:
		return b[:at] + b[at+1:]
	case 2:
		return b[:at] + one + b[at:]
	}
	return b[:at]
}

// lines is more than two blocks of the least size.
var lines = strings.Repeat("a line of a log\n", 9000)

// published are frames that another packer wrote, by what they say.
func published() map[string]string {
	three := strings.Repeat("GET /a status=200\n", 3)
	block := "\x1d\x00\x00\x00\xff\x03GET /a status=200\n\x12\x00\x0c\x50=200\n"
	ff := func(n int) string { return strings.Repeat("\xff", n) }
	line := "\xff\x01a line of a log\n\x10\x00"
	return map[string]string{
		magic + "\x60\x40\x82" + block + noughts:                                                                                                                                                                             three,
		magic + "\x6c\x40\x36\x00\x00\x00\x00\x00\x00\x00\x55" + block + noughts + "\x07\x09\xc3\x06":                                                                                                                        three,
		magic + "\x7c\x40\x36\x00\x00\x00\x00\x00\x00\x00\xdc" + block + "\xc5\x36\x6a\xce" + noughts + "\x07\x09\xc3\x06":                                                                                                   three,
		magic + "\x74\x40\xbd" + block + "\xc5\x36\x6a\xce" + noughts + "\x07\x09\xc3\x06":                                                                                                                                   three,
		magic + "\x74\x50\xff\x4f\x02\x00\x00" + line + ff(564) + "\x8c\x50 log\n" + "\x64\x8a\xd6\x79" + noughts + "\x67\x43\x47\xb9":                                                                                       lines,
		magic + "\x60\x40\x82" + lineBlocks(line, line, "\xd8", "\x1b", "\x4d", "\x8a", "", "", "") + noughts:                                                                                                                lines,
		magic + "\x5c\x40\x80\x32\x02\x00\x00\x00\x00\x00\x85" + lineBlocks(line, "\x0f\x10\x00", "\xe8", "\x0a", "\x3c", "\x9a", "\xdf\x5f\x8e\x1e", "\xa0\x74\xcb\x72", "\x8a\xa0\x38\x43") + noughts + "\x67\x43\x47\xb9": lines, // its blocks reach back
	}
}

// lineBlocks are the three blocks of the lines, as they were published.
func lineBlocks(first, others, more, size2, size3, last, sum1, sum2, sum3 string) string {
	ff := func(n int) string { return strings.Repeat("\xff", n) }
	return "\x1b\x01\x00\x00" + first + ff(256) + "\xd8\x50 log\n" + sum1 +
		size2 + "\x01\x00\x00" + others + ff(256) + more + "\x50 log\n" + sum2 +
		size3 + "\x00\x00\x00" + others + ff(50) + last + "\x50 log\n" + sum3
}
