package wrap

import (
	"strings"

	"dragnet/api"
	"dragnet/lz4"
)

// Pack writes a text as a frame.
func Pack(s string, o api.Wrap) (string, error) {
	if o.Level < 0 || o.Level > mostLevel || o.Size < leastSize || o.Size > mostSize {
		return "", &Fault{Code: api.ErrArg}
	}
	var out strings.Builder
	head := headOf(o, len(s))
	out.WriteString(magic + head)
	out.WriteByte(checkOf(head))
	lid := lidOf(o.Size)
	for from := 0; from < len(s); from += lid {
		writeBlock(&out, s[from:min(from+lid, len(s))], o)
	}
	out.WriteString(asBytes(0, numberBytes))
	if o.Sum {
		out.WriteString(sumOf(s))
	}
	return out.String(), nil
}

// headOf is the head of a frame whose text has so many bytes: from its flags up to its check.
func headOf(o api.Wrap, length int) string {
	flags := byte(version | alone)
	told := ""
	if o.Blocks {
		flags |= blockSums
	}
	if o.Length {
		flags |= lengthTold
		told = asBytes(uint64(length), lengthBytes)
	}
	if o.Sum {
		flags |= textSum
	}
	return string([]byte{flags, byte(o.Size << sizePlace)}) + told
}

func writeBlock(out *strings.Builder, piece string, o api.Wrap) {
	block, e := lz4.Compress(piece, o.Level)
	number := uint64(len(block))
	if e != api.OK || len(block) >= len(piece) {
		block, number = piece, uint64(len(piece))|stored
	}
	out.WriteString(asBytes(number, numberBytes))
	out.WriteString(block)
	if o.Blocks {
		out.WriteString(sumOf(block))
	}
}
